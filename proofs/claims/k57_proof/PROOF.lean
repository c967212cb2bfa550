import PyProof.Rows.All
import Wide.All
import OpenK.AllK
import Wide.FinOn
import KE.KStateDown
import KE.SortData
import HandS.ForMost
import HandS.More
import HandS.Walk
import HandS.Zip
import HandS.Style
import HandS.TupAny
import HandS.IsInst
import HandS.Wide
import HandS.Flow
import HandS.WordsExc
import HandS.Defaults
import HandS.Head0
import HandS.Head1
import HandS.Head2
import HandS.HeadEnd
import HandS.HeadHook1
import HandS.HeadHook2
import HandS.HeadNt
import KE.DataCmp
import HandS.SortKw
import PyProof.TupleOfSeq
import HandS.NoneIn
import HandS.ExcIs
import HandS.RevRange
import KE.GoesEnum
import KE.DataAny
import HandS.Conv
import HandS.SortInts
import HandS.FStr
import HandS.Strs
import HandS.TupSets
import HandS.DictComp
import HandS.ExcInit
import HandS.SetKeys
import HandS.SetTxt0
import HandS.SetBool
import HandS.SetFor
import KE.GoesEnumKw
import PyProof.Rows.CallKwBuiltin
import KE.DatumOrd
import HandS.ExcField
import HandS.HotCalls
import HandS.Replace
import HandS.TupLe
import KE.DataMinMax
import PyProof.StrBlock2
import HandS.WordsDict
import HandS.TupMul
import HandS.TryOnly
import PyProof.MaxThree
import PyProof.NeKinds
import HandS.Deep
import HandS.Dict
import KE.GoesMore
import PyProof.EqKinds
import HandS.Hot
import HandS.ExcCtx
import PySem.Challenge.RW_felltimber_k57_who_outlasts
set_option Elab.async false
set_option linter.all false
set_option maxRecDepth 100000
set_option maxHeartbeats 16000000
namespace FT
open PySem PySem.W PySem.Spec PyProof.Rows L2
theorem hunT {A:Around} {e:Env} {k:Nat} (hr:Room k (A.deeper e)):A.units+3+200 < cLine:=by
 have:=hr.un
 have h3:(A.deeper e).units=A.units+3:=rfl
 omega
theorem nmn {α:Type} {a:α}:¬ a ∈ ([]:List α):=List.not_mem_nil
theorem mcs {α:Type} {a:α} {l:List α}:a ∈ a::l:=List.mem_cons_self
theorem mcm {α:Type} (y:α) {a:α} {l:List α} (h:a ∈ l):a ∈ y::l:=List.mem_cons_of_mem y h
theorem mal {α:Type} {a:α} {l:List α} (k:List α) (h:a ∈ l):a ∈ l++k:=List.mem_append_left k h
theorem mar {α:Type} {a:α} {l:List α} (k:List α) (h:a ∈ l):a ∈ k++l:=List.mem_append_right k h
theorem small1000 {n:Nat} (h:n<=10000000):n < sizeLine:=Nat.lt_of_le_of_lt h (by decide)
structure SB (ps:List Addr) (H H':Hp):Prop where
 keep:∀ b o,H b=some o->b ∉ ps->H' b=some o
 tups:∀ b xs,H b=some (.tup xs)->H' b=some (.tup xs)
 frzs:∀ b o u,H b=some (.frz o u)->H' b=some (.frz o u)
 dom:∀ b,H' b=none->H b=none
section
variable {K:PySem.W.Frag} {ps qs:List Addr} {H H' H1 H2:Hp} {a p:Addr} {xs:List V}
theorem SB.refl:SB ps H H:=⟨fun _ _ h _=>h,fun _ _ h=>h,fun _ _ _ h=>h,fun _ h=>h⟩
theorem SB.trans (a:SB ps H H1) (b:SB ps H1 H2):SB ps H H2 :=
 ⟨fun c o h n=>b.keep c o (a.keep c o h n) n,fun c x h=>b.tups c x (a.tups c x h),fun c o u h=>b.frzs c o u (a.frzs c o u h),fun c h=>a.dom c (b.dom c h)⟩
theorem SB.mono (h:SB ps H H') (hs:∀ b ∈ ps,b ∈ qs):SB qs H H':=⟨fun c o e n=>h.keep c o e fun z=>n (hs c z),h.tups,h.frzs,h.dom⟩
theorem SB.nil (h:SB [] H H'):SB ps H H':=h.mono fun _ z=>absurd z (nmn)
theorem SB.new (h:H p=none) (o:HO):SB ps H (upd H p o):=by
 refine ⟨fun b u e _=>?_,fun b u e=>?_,fun b v u e=>?_,fun b e=>?_⟩
 ·rw [upd_ne (ne_of_none e h)]; exact e
 ·rw [upd_ne (ne_of_none e h)]; exact e
 ·rw [upd_ne (ne_of_none e h)]; exact e
 ·by_cases q:b=p
  ·subst q; exact h
  ·rw [upd_ne q] at e; exact e
theorem SB.set (h:H p=some (.lst xs)) (hp:p ∈ ps) (o:HO):SB ps H (upd H p o):=by
 refine ⟨fun b u e n=>?_,fun b u e=>?_,fun b v u e=>?_,fun b e=>?_⟩
 ·rw [upd_ne (fun (z:b=p)=>n (by rw [z]; exact hp))]; exact e
 ·rw [upd_ne (fun (z:b=p)=>by subst z; rw [h] at e; cases e)]; exact e
 ·rw [upd_ne (fun (z:b=p)=>by subst z; rw [h] at e; cases e)]; exact e
 ·by_cases q:b=p
  ·subst q; rw [upd_same] at e; cases e
  ·rw [upd_ne q] at e; exact e
theorem SB.drop (h:SB (p::ps) H H') (n:H p=none):SB ps H H':=by
 refine ⟨fun b o e m=>h.keep b o e fun z=>?_,h.tups,h.frzs,h.dom⟩
 rcases List.mem_cons.mp z with z | z
 ·subst z; rw [n] at e; cases e
 ·exact m z
theorem SB.sqT (e:SB ps H H') (h:SqT K H a xs):SqT K H' a xs:=by
 rcases h with (h | ⟨o,h⟩) | h
 ·exact .inl (.inl (e.tups _ _ h))
 ·exact .inl (.inr ⟨o,e.frzs _ _ _ h⟩)
 ·exact .inr h
theorem SB.sqL (e:SB ps H H') (n:a ∉ ps) (h:SqL K H a xs):SqL K H' a xs:=by
 rcases h with (h | ⟨o,h⟩) | h
 ·exact .inl (.inl (e.keep _ _ h n))
 ·exact .inl (.inr ⟨o,e.frzs _ _ _ h⟩)
 ·exact .inr h
end
inductive Lad where
 | nil
 | cons (e:Lad) (m:Int) (r:Lad)
 deriving DecidableEq
namespace Lad
def encs:Lad->List PyData
 | .nil=>[]
 | .cons e m r=>.tuple [.tuple e.encs,.int m]::r.encs
def enc (l:Lad):PyData:=.tuple l.encs
def parts:Lad->Nat
 | .nil=>0
 | .cons e _ r=>1+e.parts+r.parts
def deep:Lad->Nat
 | .nil=>0
 | .cons e _ r=>max (1+e.deep) r.deep
def len:Lad->Nat
 | .nil=>0
 | .cons _ _ r=>1+r.len
theorem encs_length:∀ l:Lad,l.encs.length=l.len
 | .nil=>rfl
 | .cons e m r=>by show r.encs.length+1=1+r.len; rw [encs_length r,Nat.add_comm]
theorem len_parts:∀ l:Lad,l.len<=l.parts
 | .nil=>Nat.le_refl _
 | .cons e m r=>by have:=len_parts r; show 1+r.len<=1+e.parts+r.parts; omega
theorem alikes:∀ l k:Lad,alikeAll l.encs k.encs=true
 | .nil,_=>by simp [encs,alikeAll]
 | .cons e m r,.nil=>by simp [encs,alikeAll]
 | .cons e m r,.cons e' m' r'=>by
  have h1:=alikes e e'
  have h2:=alikes r r'
  simp [encs,alikeAll,alike,h1,h2]
theorem alike_enc (l k:Lad):alike l.enc k.enc=true:=by
 show alike (.tuple l.encs) (.tuple k.encs)=true
 rw [alike]; exact alikes l k
theorem encs_depth:∀ l:Lad,PyData.depthAll l.encs<=2*l.deep
 | .nil=>by simp [encs,PyData.depthAll,deep]
 | .cons e m r=>by
  have h1:=encs_depth e
  have h2:=encs_depth r
  simp only [encs,PyData.depthAll,PyData.depth,deep]
  omega
theorem enc_depth (l:Lad):l.enc.depth<=2*l.deep+1:=by
 have:=encs_depth l
 simp only [enc,PyData.depth]
 omega
theorem enc_ne (l:Lad):l.enc ≠ .none:=fun h=>nomatch h
end Lad
def rLtD (K:PySem.W.Frag):R2:=fun x y H Q=>∃ d e,Dp K H x d/\Dp K H y e/\alike d e=true/\d ≠ .none/\d.depth<=100/\Q (.bl (dataLt d e)) H
section
variable {X:Cx}
theorem op_ltD (hu:X.A.units+100 < cLine):OpR X (compareOp .Lt) (rLtD X.K):=by
 intro pins s σ H x y v u Q I rx ry h
 obtain ⟨d,e,hd,he,al,hn,hdp,q⟩:=h
 obtain ⟨as,r1⟩:=Dp.reads I d x v hd rx
 obtain ⟨bs,r2⟩:=Dp.reads I e y u he ry
 exact rcLt_alike d e X.A s v u as bs r1 r2 al hn (by have:=Nat.min_le_left d.depth e.depth; omega) X.prog X.w X.xe _ ⟨.bl _,H,I,rfl,q⟩
end
mutual
def noList:PyData->Bool
 | .list _=>false
 | .dict _=>false
 | .tuple ds=>noLists ds
 | _=>true
def noLists:List PyData->Bool
 | []=>true
 | d::ds=>noList d&&noLists ds
end
section
variable {K:PySem.W.Frag} {ps:List Addr} {H H':Hp}
mutual
theorem Dp_sb (e:SB ps H H'):∀ (d:PyData) (v:V),noList d=true->Dp K H v d->Dp K H' v d
 | .none,_,_,h=>by cases h; exact .non
 | .bool b,_,_,h=>by cases h; exact .bl b
 | .int i,_,_,h=>by cases h; exact .int i
 | .str x,_,_,h=>by cases h; exact .str x
 | .list ds,_,n,_=>by simp [noList] at n
 | .dict ds,_,n,_=>by simp [noList] at n
 | .tuple ds,_,n,h=>by
  cases h with
  | tup hs ha=>exact .tup (e.sqT hs) (DpAll_sb e ds _ (by simpa [noList] using n) ha)
theorem DpAll_sb (e:SB ps H H'):∀ (ds:List PyData) (vs:List V),noLists ds=true->DpAll K H vs ds->DpAll K H' vs ds
 | [],_,_,h=>by cases h; exact .nil
 | d::ds,_,n,h=>by
  cases h with
  | cons h1 h2 =>
   simp [noLists] at n
   exact .cons (Dp_sb e d _ n.1 h1) (DpAll_sb e ds _ n.2 h2)
end
end
theorem Lad.noLists_encs:∀ l:Lad,noLists l.encs=true
 | .nil=>by simp [Lad.encs,noLists]
 | .cons e m r=>by simp [Lad.encs,noLists,noList,Lad.noLists_encs e,Lad.noLists_encs r]
theorem Lad.noList_enc (l:Lad):noList l.enc=true:=by simp [Lad.enc,noList,Lad.noLists_encs l]
def LA (K:PySem.W.Frag) (H:Hp) (v:V) (l:Lad):Prop:=Dp K H v l.enc
section
variable {K:PySem.W.Frag} {ps:List Addr} {H H':Hp} {v:V} {l:Lad}
theorem LA.sb (h:LA K H v l) (e:SB ps H H'):LA K H' v l:=Dp_sb e _ _ l.noList_enc h
theorem LA.tup (h:LA K H v l):∃ a xs,v=.ref a/\SqT K H a xs/\DpAll K H xs l.encs:=by
 have h':Dp K H v (.tuple l.encs):=h
 cases h' with
 | tup hs ha=>exact ⟨_,_,rfl,hs,ha⟩
theorem DpAll.length:∀ {vs:List V} {ds:List PyData},DpAll K H vs ds->vs.length=ds.length
 | _,_,.nil=>rfl
 | _,_,.cons _ t=>by rw [List.length_cons,List.length_cons,DpAll.length t]
theorem DpAll.get:∀ {vs:List V} {ds:List PyData} {i:Nat} {v:V},DpAll K H vs ds->vs[i]?=some v->∃ d,ds[i]?=some d/\Dp K H v d
 | _,_,_,_,.nil,e=>by simp at e
 | _,_,0,_,.cons h t,e=>by simp at e; subst e; exact ⟨_,rfl,h⟩
 | _,_,i+1,v,.cons h t,e=>by
  obtain ⟨d,h1,h2⟩:=DpAll.get (i:=i) (v:=v) t (by simpa using e)
  exact ⟨d,by simpa using h1,h2⟩
end
structure BI (mg:Str->Option Value):Prop where
 len:mg "len"=none
 isinstance:mg "isinstance"=none
 int:mg "int"=none
 bool:mg "bool"=none
 str:mg "str"=none
 tuple:mg "tuple"=none
 list:mg "list"=none
 all:mg "all"=none
 zip:mg "zip"=none
 sum:mg "sum"=none
 max:mg "max"=none
 range:mg "range"=none
 enumerate:mg "enumerate"=none
 abs:mg "abs"=none
 sorted:mg "sorted"=none
 min:mg "min"=none
 reversed:mg "reversed"=none
 any:mg "any"=none
 set:mg "set"=none
 dict:mg "dict"=none
 repr:mg "repr"=none
structure Got (P:Program) (w:World) (K:PySem.W.Frag) (mg:Str->Option Value) (base:Heap) (x:Str) (ps:List Str) (k:Nat) (sp:Sp):Prop where
 ex:∃ (f:Addr) (fd:FuncData),FnOk P w K mg base CX0 k f fd ps sp/\PySem.W.keepIn K (.ref f)=true/\Binds K fd ps []/\mg x=some (.ref f)
section
variable {X:Cx} {x:Str} {ps:List Str} {k:Nat} {sp:Sp} {e:Expr} {es:List Expr} {t:TA} {p pos:Pos}
theorem pe_got (G:Got X.prog X.w X.K X.mg X.base x ps k sp) (hr:Room k X.A) (hg:Gl X x) (ha:PA X (e::es) t) (hdb:(x == ("__debug__":Str))=false:=by decide) (he:starEach (e::es) X.env=(false,eval e X.env)::starEach es X.env:=by rfl) (hpl:(backTo pos (starEach es X.env)).any (·.1)=false:=by rfl) :
  PE X (.Call (.Name x p) (e::es) [] pos) (tCall sp [] E0 t):=by
 obtain ⟨f,fd,h1,h2,h3,h4⟩:=G.ex
 exact pe_call h1 hr hg h4 h2 h3 .nil pass0 ha hdb he hpl
end
def rIsiN (K:PySem.W.Frag):List V->Hp->VK->Prop:=fun xs H Q=>∃ (x:V) (T n:String) (b:Bool),xs=[x,.ty T]/\TyX K H x (.type n)/\kitB n T=some b/\Q (.bl b) H
section
variable {X:Cx}
theorem call_isiN:CallR X (.builtin "isinstance") (rIsiN X.K):=by
 intro pins s σ H xs us Q I r h
 obtain ⟨x,T,n,b,rfl,ty,e,q⟩:=h
 exact call_isi pins s σ H _ us Q I r ⟨x,.ty T,.type n,.type T,b,rfl,.ty T,ty,kit_ty e,q⟩
theorem pe_ty {T:Str} {T':String} {pos:Pos} (hg:Gl X T) (hm:X.mg T=none) (hv:bootBuiltins T=some (.type T')) (hn:T ≠ "__name__":=by decide) (hd:(T == ("__debug__":Str))=false:=by decide):PE X (.Name T pos) (tC (.ty T')):=pe_bltn hg hm hv rfl hn hd
theorem pe_isi {e:Expr} {te:TE} {T:Str} {T':String} {p p2 pos:Pos} (B:BI X.mg) (he:PE X e te) (hm:X.mg T=none) (hv:bootBuiltins T=some (.type T')) (hg:Gl X "isinstance":=by rfl) (hg2:Gl X T:=by rfl) (hn:T ≠ "__name__":=by decide) (hd:(T == ("__debug__":Str))=false:=by decide)
  (hs:starEach [e,.Name T p2] X.env=(false,eval e X.env)::starEach [.Name T p2] X.env:=by rfl) (hpl:(backTo pos (starEach [.Name T p2] X.env)).any (·.1)=false:=by rfl) :
  PE X (.Call (.Name "isinstance" p) [e,.Name T p2] [] pos) (tCB (rIsiN X.K) (tCons te (tCons (tC (.ty T')) tNil))) :=
 pe_callB call_isiN hg B.isinstance boot_isinstance (pa_cons he (pa_cons (pe_ty hg2 hm hv hn hd) pa_nil) hs) (by decide) (by decide) hs hpl
end
mutual
inductive Th (K:PySem.W.Frag) (ps:List Addr) (H:Hp):V->PyData->Prop
 | int (i:Int):Th K ps H (.int i) (.int i)
 | tup {a:Addr} {xs:List V} {ds:List PyData}:SqT K H a xs->ThAll K ps H xs ds->Th K ps H (.ref a) (.tuple ds)
 | oth {v:V} {n:String}:TyX K H v (.type n)->kitB n "tuple"=some false->(kitB n "int"=some false\/n="bool")->(∀ a,v=.ref a->a ∉ ps)->Th K ps H v .none
inductive ThAll (K:PySem.W.Frag) (ps:List Addr) (H:Hp):List V->List PyData->Prop
 | nil:ThAll K ps H [] []
 | cons {v:V} {vs:List V} {d:PyData} {ds:List PyData}:Th K ps H v d->ThAll K ps H vs ds->ThAll K ps H (v::vs) (d::ds)
end
def manyD:PyData->Bool
 | .int i=>decide (1<=i)
 | _=>false
section
variable {K:PySem.W.Frag} {ps:List Addr} {H H':Hp}
theorem SqT_ty {a:Addr} {xs:List V} (h:SqT K H a xs):TyX K H (.ref a) (.type "tuple"):=by
 rcases h with (h | ⟨o,h⟩) | ⟨o,its,n,h,c,_⟩
 ·exact .base (.tup h)
 ·exact .fTuple h
 ·exact .kTuple h c
theorem Th.whole {v:V} {d:PyData} (h:Th K ps H v d):∃ n b1 b2,TyX K H v (.type n)/\kitB n "int"=some b1/\(b1=true->kitB n "bool"=some b2)/\((b1&&!b2)=true->∃ i,v=.int i/\d=.int i)/\((b1&&!b2)=false->manyD d=false):=by
 cases h with
 | int i=>exact ⟨"int",true,false,.base (.int i),by decide +kernel,fun _=>by decide +kernel,fun _=>⟨i,rfl,rfl⟩,fun z=>(nomatch z)⟩
 | tup hs ha=>exact ⟨"tuple",false,false,(SqT_ty hs),by decide +kernel,fun z=>(nomatch z),fun z=>(nomatch z),fun _=>rfl⟩
 | @oth v n ty k1 k2 _ =>
  rcases k2 with k2 | k2
  ·exact ⟨n,false,false,ty,k2,fun z=>(nomatch z),fun z=>(nomatch z),fun _=>rfl⟩
  ·subst k2
   exact ⟨"bool",true,true,ty,by decide +kernel,fun _=>by decide +kernel,fun z=>(nomatch z),fun _=>rfl⟩
theorem TyX_sb {v:V} {n:String} (e:SB ps H H') (hn:∀ a,v=.ref a->a ∉ ps) (h:TyX K H v (.type n)):TyX K H' v (.type n):=by
 cases h with
 | base h =>
  cases h with
  | non=>exact .base .non
  | bl x=>exact .base (.bl x)
  | int i=>exact .base (.int i)
  | str x=>exact .base (.str x)
  | flt x=>exact .base (.flt x)
  | lst h=>exact .base (.lst (e.keep _ _ h (hn _ rfl)))
  | frz h=>exact .base (.frz (e.frzs _ _ _ h))
  | tup h=>exact .base (.tup (e.tups _ _ h))
  | dK h=>exact .base (.dK (e.keep _ _ h (hn _ rfl)))
  | dT h=>exact .base (.dT (e.keep _ _ h (hn _ rfl)))
 | byt b=>exact .byt b
 | set h=>exact .set (e.keep _ _ h (hn _ rfl))
 | kList h c=>exact .kList h c
 | kTuple h c=>exact .kTuple h c
 | kDict h c=>exact .kDict h c
 | fTuple h=>exact .fTuple (e.frzs _ _ _ h)
 | fDict h=>exact .fDict (e.frzs _ _ _ h)
end
inductive Bears (K:PySem.W.Frag) (H:Hp) {β:Type} (enc:β->PyData):List V->List β->Prop
 | nil:Bears K H enc [] []
 | cons {v:V} {vs:List V} {b:β} {bs:List β}:Dp K H v (enc b)->Bears K H enc vs bs->Bears K H enc (v::vs) (b::bs)
section
variable {K:PySem.W.Frag} {H H':Hp} {β:Type} {enc:β->PyData} {ps:List Addr}
theorem Bears.length:∀ {vs:List V} {bs:List β},Bears K H enc vs bs->vs.length=bs.length
 | _,_,.nil=>rfl
 | _,_,.cons _ t=>by rw [List.length_cons,List.length_cons,Bears.length t]
theorem Bears.dp:∀ {vs:List V} {bs:List β},Bears K H enc vs bs->DpAll K H vs (bs.map enc)
 | _,_,.nil=>.nil
 | _,_,.cons h t=>.cons h (Bears.dp t)
theorem Bears.of:∀ {vs:List V} {bs:List β},DpAll K H vs (bs.map enc)->Bears K H enc vs bs
 | [],[],_=>.nil
 | _::_,[],h=>by cases h
 | [],_::_,h=>by cases h
 | v::vs,b::bs,h=>by
  cases h with
  | cons h1 h2=>exact .cons h1 (Bears.of h2)
theorem Bears.get:∀ {vs:List V} {bs:List β} {i:Nat} {v:V},Bears K H enc vs bs->vs[i]?=some v->∃ b,bs[i]?=some b/\Dp K H v (enc b)
 | _,_,_,_,.nil,e=>by simp at e
 | _,_,0,_,.cons h t,e=>by simp at e; subst e; exact ⟨_,rfl,h⟩
 | _,_,i+1,v,.cons h t,e=>by
  obtain ⟨d,h1,h2⟩:=Bears.get (i:=i) (v:=v) t (by simpa using e)
  exact ⟨d,by simpa using h1,h2⟩
theorem Bears.append:∀ {xs ys:List V} {bs cs:List β},Bears K H enc xs bs->Bears K H enc ys cs->Bears K H enc (xs++ys) (bs++cs)
 | _,_,_,_,.nil,h=>h
 | _,_,_,_,.cons a b,h=>.cons a (Bears.append b h)
theorem Bears.sb (e:SB ps H H') (hn:∀ b,noList (enc b)=true):∀ {xs:List V} {bs:List β},Bears K H enc xs bs->Bears K H' enc xs bs
 | _,_,.nil=>.nil
 | _,_,.cons a b=>.cons (Dp_sb e _ _ (hn _) a) (Bears.sb e hn b)
end
section
variable {X:Cx} {pins:List (Addr × Obj)} {σ:L2.St} {H:Hp} {s:Shared} {β:Type} {enc:β->PyData}
theorem each_of (I:Inv X pins σ H s):∀ {vs:List V} {us:List Value} {bs:List β},Bears X.K H enc vs bs->Vals vs us ->
  EachIs (fun u b=>∃ v,RelV v u/\Dp X.K H v (enc b)) us bs/\EachIs (fun u b=>∃ as,Reads s.heap u (enc b) as) us bs
 | _,_,_,.nil,.nil=>⟨.nil,.nil⟩
 | _,_,_,.cons h t,.cons r u=>by
  obtain ⟨h1,h2⟩:=each_of I t u
  exact ⟨.cons ⟨_,r,h⟩ h1,.cons (Dp.reads I _ _ _ h r) h2⟩
theorem of_each {K:PySem.W.Frag}:∀ {us:List Value} {bs:List β},EachIs (fun u b=>∃ v,RelV v u/\Dp K H v (enc b)) us bs->∃ vs,Vals vs us/\Bears K H enc vs bs
 | _,_,.nil=>⟨[],.nil,.nil⟩
 | _,_,.cons ⟨v,r,h⟩ t=>by
  obtain ⟨vs,h1,h2⟩:=of_each t
  exact ⟨v::vs,.cons r h1,.cons h h2⟩
end
section
variable {P:Program} {w:World} {K:PySem.W.Frag} {mg:Str->Option Value} {base:Heap} {f:Addr} {fd:FuncData}
def spWhole (K:PySem.W.Frag):Sp:=fun vs H Q _=>∃ (v:V) (n:String) (b1 b2:Bool),vs=[v]/\TyX K H v (.type n)/\kitB n "int"=some b1/\(b1=true->kitB n "bool"=some b2)/\Q (.bl (b1&&!b2)) H
def spMany (K:PySem.W.Frag) (ps:List Addr):Sp:=fun vs H Q _=>∃ (v:V) (d:PyData),vs=[v]/\Th K ps H v d/\Q (.bl (manyD d)) H
end
def ltsD:List PyData->List Bool
 | []=>[]
 | [_]=>[]
 | a::b::r=>dataLt a b::ltsD (b::r)
def risingD (ds:List PyData):Bool:=(ltsD ds).all id
theorem ltsD_length:∀ ds:List PyData,(ltsD ds).length=ds.length-1
 | []=>rfl
 | [_]=>rfl
 | a::b::r=>by
  have h:=ltsD_length (b::r)
  show (ltsD (b::r)).length+1=_
  rw [h]; simp
theorem ltsD_get:∀ (ds:List PyData) (i:Nat) (d e:PyData),ds[i]?=some d->ds[i+1]?=some e->(ltsD ds)[i]?=some (dataLt d e)
 | [],_,_,_,h,_=>by simp at h
 | [_],_,_,_,_,h=>by simp at h
 | a::b::r,0,d,e,h1,h2=>by simp at h1 h2; subst h1 h2; rfl
 | a::b::r,i+1,d,e,h1,h2=>by
  have:=ltsD_get (b::r) i d e (by simpa using h1) (by simpa using h2)
  simpa [ltsD] using this
theorem cut1 (xs:List V):cutV xs (some 1) none=xs.drop 1:=by
 unfold cutV
 have h1:HT.sIx xs.length 0 (some 1)=min 1 xs.length:=HT.sIx_nat xs.length 0 1
 have h2:HT.sIx xs.length xs.length none=xs.length:=rfl
 rw [h1,h2]
 cases xs with
 | nil=>rfl
 | cons x r =>
  have:min 1 (x::r).length=1:=by simp
  rw [this]
  simp
section
variable {P:Program} {w:World} {K:PySem.W.Frag} {mg:Str->Option Value} {base:Heap} {f:Addr} {fd:FuncData}
def OkD (d:PyData):Prop:=noList d=true/\d ≠ .none/\d.depth<=100
def spRising (K:PySem.W.Frag):Sp:=fun vs H Q _=>∃ (a:Addr) (xs:List V) (ds:List PyData),vs=[.ref a]/\SqL K H a xs/\DpAll K H xs ds/\(∀ d ∈ ds,OkD d)/\AllAlike ds/\xs.length<=1000 /\
 ∀ H',SB [] H H'->Q (.bl (risingD ds)) H'
abbrev N_rising:List Str:=["things","low","high"]
end
def Lad.num (i:Int):Lad:=if i=0 then .nil else .cons .nil i .nil
def Lad.lt (l k:Lad):Bool:=dataLt l.enc k.enc
section
variable {P:Program} {w:World} {K:PySem.W.Frag} {mg:Str->Option Value} {base:Heap} {f:Addr} {fd:FuncData}
theorem LA_nil {H:Hp} {p:Addr} (h:SqT K H p []):LA K H (.ref p) .nil:=Dp.tup h .nil
theorem LA_one {H:Hp} {p q:Addr} {u:V} {e:Lad} {m:Int} (h:SqT K H p [.ref q]) (h2:SqT K H q [u,.int m]) (h3:LA K H u e):LA K H (.ref p) (.cons e m .nil) :=
 Dp.tup h (.cons (.tup h2 (.cons h3 (.cons (.int m) .nil))) .nil)
def spNumber (K:PySem.W.Frag):Sp:=fun vs H Q _=>∃ i:Int,vs=[.int i]/\∀ v H',SB [] H H'->LA K H' v (Lad.num i)->Q v H'
def spLess (K:PySem.W.Frag):Sp:=fun vs H Q _=>∃ (v u:V) (l k:Lad),vs=[v,u]/\LA K H v l/\LA K H u k/\l.deep<=45/\Q (.bl (l.lt k)) H
end
namespace Lad
def ps:Lad->List (Lad × Int)
 | .nil=>[]
 | .cons e m r=>(e,m)::r.ps
def ofPs:List (Lad × Int)->Lad
 | []=>.nil
 | (e,m)::r=>.cons e m (ofPs r)
def pEnc (p:Lad × Int):PyData:=.tuple [p.1.enc,.int p.2]
theorem ofPs_ps:∀ l:Lad,ofPs l.ps=l
 | .nil=>rfl
 | .cons e m r=>by show cons e m (ofPs r.ps)=_; rw [ofPs_ps r]
theorem ps_ofPs:∀ l:List (Lad × Int),(ofPs l).ps=l
 | []=>rfl
 | (e,m)::r=>by show (e,m)::(ofPs r).ps=_; rw [ps_ofPs r]
theorem encs_ps:∀ l:Lad,l.encs=l.ps.map pEnc
 | .nil=>rfl
 | .cons e m r=>by show _::r.encs=pEnc (e,m)::r.ps.map pEnc; rw [encs_ps r]; rfl
theorem ps_length (l:Lad):l.ps.length=l.len:=by rw [<- encs_length,encs_ps,List.length_map]
theorem mem_deep:∀ (l:Lad) (p:Lad × Int),p ∈ l.ps->p.1.deep < l.deep
 | .nil,_,h=>by simp [ps] at h
 | .cons e m r,p,h=>by
  rcases List.mem_cons.mp h with h | h
  ·subst h; show e.deep < max (1+e.deep) r.deep; omega
  ·have:=mem_deep r p h; show p.1.deep < max (1+e.deep) r.deep; omega
end Lad
section
variable {P:Program} {w:World} {K:PySem.W.Frag} {mg:Str->Option Value} {base:Heap} {f:Addr} {fd:FuncData}
theorem LA_pair {H:Hp} {v:V} {p:Lad × Int} (h:Dp K H v (Lad.pEnc p)):∃ a u,v=.ref a/\SqT K H a [u,.int p.2]/\LA K H u p.1:=by
 have h':Dp K H v (.tuple [p.1.enc,.int p.2]):=h
 cases h' with
 | tup hs ha =>
  cases ha with
  | cons a1 a2 =>
   cases a2 with
   | cons b1 b2 =>
    cases b2
    cases b1
    exact ⟨_,_,rfl,hs,a1⟩
end
def exp0:PyData->PyData
 | .tuple (e::_)=>e
 | _=>.none
mutual
def ladD:PyData->Bool
 | .tuple ds=>ladPs ds&&risingD (ds.map exp0).reverse
 | _=>false
def ladPs:List PyData->Bool
 | []=>true
 | d::ds=>ladP d&&ladPs ds
def ladP:PyData->Bool
 | .tuple ds=>ladP2 ds
 | _=>false
def ladP2:List PyData->Bool
 | []=>false
 | e::r=>ladD e&&ladP3 r
def ladP3:List PyData->Bool
 | []=>false
 | m::r=>manyD m&&r.isEmpty
end
theorem depthAll_get {ds:List PyData} {i:Nat} {d:PyData} (h:ds[i]?=some d):d.depth<=PyData.depthAll ds:=PyData.depth_le_depthAll ds d (List.mem_of_getElem? h)
section
variable {P:Program} {w:World} {K:PySem.W.Frag} {mg:Str->Option Value} {base:Heap} {f:Addr} {fd:FuncData} {ps:List Addr}
mutual
def wide:PyData->Nat
 | .tuple ds=>max ds.length (wides ds)
 | _=>0
def wides:List PyData->Nat
 | []=>0
 | d::ds=>max (wide d) (wides ds)
end
theorem wide_mem:∀ (ds:List PyData) (d:PyData),d ∈ ds->wide d<=wides ds
 | [],_,h=>by simp at h
 | e::ds,d,h=>by
  rw [wides]
  rcases List.mem_cons.mp h with h | h
  ·subst h; omega
  ·have:=wide_mem ds d h; omega
theorem wide_tuple (ds:List PyData):wide (.tuple ds)=max ds.length (wides ds):=by rw [wide]
end
section
variable {K:PySem.W.Frag} {H:Hp}
theorem DpAll.append:∀ {xs ys:List V} {ds es:List PyData},DpAll K H xs ds->DpAll K H ys es->DpAll K H (xs++ys) (ds++es)
 | _,_,_,_,.nil,h=>h
 | _,_,_,_,.cons a b,h=>.cons a (DpAll.append b h)
end
section
variable {K:PySem.W.Frag} {a b:Addr} {xs ys:List V}
theorem walk_zipT {n:Nat} (hn:n=min xs.length ys.length):Walk (RZ.ItzT K a b) n (fun H=>SqT K H a xs/\SqT K H b ys) (YPair (fun i=>xs[i]?) (fun i=>ys[i]?)):=by
 subst hn
 refine ⟨fun i H hi h=>?_,fun H h=>?_,fun i H x H' hi h y=>?_⟩
 ·have h1:i < xs.length:=by omega
  have h2:i < ys.length:=by omega
  exact ⟨xs,ys,xs[i],ys[i],h.1,h.2,List.getElem?_eq_getElem h1,List.getElem?_eq_getElem h2⟩
 ·exact ⟨xs,ys,h.1,h.2,by omega⟩
 ·obtain ⟨T,x1,y1,e1,e2,e3,e4,e5⟩:=y
  exact ⟨T,x1,y1,e1,e2,e3,e4 xs h.1,e5 ys h.2⟩
end
theorem ib (m m':Int):(m == m')=decide (m=m'):=by by_cases h:m=m' <;> simp [h]
theorem Lad.eqvs:∀ l k:Lad,PyData.eqvAll l.encs k.encs=decide (l=k)
 | .nil,.nil=>by simp [encs,PyData.eqvAll]
 | .nil,.cons _ _ _=>by simp [encs,PyData.eqvAll]
 | .cons _ _ _,.nil=>by simp [encs,PyData.eqvAll]
 | .cons e m r,.cons e' m' r'=>by
  have h1:=Lad.eqvs e e'
  have h2:=Lad.eqvs r r'
  simp [encs,PyData.eqvAll,PyData.eqv,h1,h2,Bool.and_assoc,ib]
theorem Lad.eqv_enc (l k:Lad):PyData.eqv l.enc k.enc=decide (l=k):=by
 rw [Lad.enc,Lad.enc,PyData.eqv]; exact Lad.eqvs l k
theorem Lad.lt_nil_nil:Lad.lt .nil .nil=false:=by decide +kernel
theorem Lad.lt_nil_cons (e:Lad) (m:Int) (r:Lad):Lad.lt .nil (.cons e m r)=true:=by
 unfold Lad.lt Lad.enc
 rw [dataLt_tuple,Lad.encs,Lad.encs,toks_all_cons,show keyToksAll []=[.inl 0] by simp [keyToksAll],lex_atom (by simp),lex_one]
 decide +kernel
theorem Lad.lt_cons_nil (e:Lad) (m:Int) (r:Lad):Lad.lt (.cons e m r) .nil=false:=by
 unfold Lad.lt Lad.enc
 rw [dataLt_tuple,Lad.encs,Lad.encs,toks_all_cons,show keyToksAll []=[.inl 0] by simp [keyToksAll],lex_atom (by simp),lex_one]
 decide +kernel
theorem Lad.lt_cons (e e':Lad) (m m':Int) (r r':Lad):Lad.lt (.cons e m r) (.cons e' m' r')=if e=e' then (if m=m' then r.lt r' else decide (m < m')) else e.lt e':=by
 have al:alike (.tuple [e.enc,.int m]) (.tuple [e'.enc,.int m'])=true:=by simp [alike,alikeAll,e.alike_enc e']
 have h1:Lad.lt (.cons e m r) (.cons e' m' r')=if PyData.eqv (.tuple [e.enc,.int m]) (.tuple [e'.enc,.int m'])=true then r.lt r' else dataLt (.tuple [e.enc,.int m]) (.tuple [e'.enc,.int m']):=by
  unfold Lad.lt
  rw [show (Lad.cons e m r).enc=.tuple (.tuple [e.enc,.int m]::r.encs) from rfl,show (Lad.cons e' m' r').enc=.tuple (.tuple [e'.enc,.int m']::r'.encs) from rfl,dataLt_tuple,dataLt_cons al]
  rw [show dataLt r.enc r'.enc=PyProof.Rows.lexLt itemOrd (keyToksAll r.encs) (keyToksAll r'.encs) from dataLt_tuple _ _]
 have h2:PyData.eqv (.tuple [e.enc,.int m]) (.tuple [e'.enc,.int m'])=(decide (e=e')&&decide (m=m')):=by
  simp [PyData.eqv,PyData.eqvAll,Lad.eqv_enc,ib]
 rw [h1,h2,dataLt_pair (e.alike_enc e') (by simp [alike]),Lad.eqv_enc]
 by_cases he:e=e'
 ·by_cases hm:m=m'
  ·simp [he,hm]
  ·simp [he,hm,PyData.eqv,dataLt_int]
 ·simp [he,Lad.lt]
namespace Lad
theorem lt_irrefl:∀ l:Lad,l.lt l=false
 | .nil=>lt_nil_nil
 | .cons e m r=>by rw [lt_cons,if_pos rfl,if_pos rfl]; exact lt_irrefl r
theorem lt_nil_r:∀ l:Lad,l.lt .nil=false
 | .nil=>lt_nil_nil
 | .cons e m r=>lt_cons_nil e m r
theorem lt_ne {l k:Lad} (h:l.lt k=true):l ≠ k:=fun z=>by subst z; rw [lt_irrefl] at h; cases h
theorem lt_tri:∀ l k:Lad,l ≠ k->l.lt k=false->k.lt l=true
 | .nil,.nil,h,_=>absurd rfl h
 | .nil,.cons e m r,_,h=>by rw [lt_nil_cons] at h; cases h
 | .cons e m r,.nil,_,_=>lt_nil_cons e m r
 | .cons e m r,.cons e' m' r',hne,h=>by
  rw [lt_cons] at h ⊢
  by_cases he:e=e'
  ·subst he
   rw [if_pos rfl] at h ⊢
   by_cases hm:m=m'
   ·subst hm
    rw [if_pos rfl] at h ⊢
    exact lt_tri r r' (fun z=>hne (by rw [z])) h
   ·rw [if_neg hm] at h
    rw [if_neg (fun z=>hm z.symm)]
    have:=of_decide_eq_false h
    exact decide_eq_true (by omega)
  ·rw [if_neg he] at h
   rw [if_neg (fun z=>he z.symm)]
   exact lt_tri e e' he h
theorem lt_trans:∀ l k j:Lad,l.lt k=true->k.lt j=true->l.lt j=true
 | _,_,.nil,_,h=>by rw [lt_nil_r] at h; cases h
 | _,.nil,.cons _ _ _,h,_=>by rw [lt_nil_r] at h; cases h
 | .nil,.cons _ _ _,.cons e m r,_,_=>lt_nil_cons e m r
 | .cons e m r,.cons e' m' r',.cons e'' m'' r'',h1,h2=>by
  rw [lt_cons] at h1 h2 ⊢
  by_cases he:e=e'
  ·subst he
   rw [if_pos rfl] at h1
   by_cases he2:e=e''
   ·subst he2
    rw [if_pos rfl] at h2 ⊢
    by_cases hm:m=m'
    ·subst hm
     rw [if_pos rfl] at h1
     by_cases hm2:m=m''
     ·subst hm2
      rw [if_pos rfl] at h2 ⊢
      exact lt_trans r r' r'' h1 h2
     ·rw [if_neg hm2] at h2 ⊢
      exact h2
    ·rw [if_neg hm] at h1
     have a1:=of_decide_eq_true h1
     by_cases hm2:m'=m''
     ·subst hm2
      rw [if_neg hm]
      exact h1
     ·rw [if_neg hm2] at h2
      have a2:=of_decide_eq_true h2
      rw [if_neg (by omega)]
      exact decide_eq_true (by omega)
   ·rw [if_neg he2] at h2 ⊢
    exact h2
  ·rw [if_neg he] at h1
   by_cases he2:e'=e''
   ·subst he2
    rw [if_neg he]
    exact h1
   ·rw [if_neg he2] at h2
    have h3:=lt_trans e e' e'' h1 h2
    rw [if_neg (lt_ne h3)]
    exact h3
theorem lt_asymm {l k:Lad} (h:l.lt k=true):k.lt l=false:=by
 cases e:k.lt l with
 | false=>rfl
 | true =>
  have:=lt_trans l k l h e
  rw [lt_irrefl] at this
  cases this
def Ok (B:Int):Lad->Prop
 | .nil=>True
 | .cons e m r=>e.Ok B/\1<=m/\m < B/\r.Ok B/\∀ p ∈ r.ps,p.1.lt e=true
theorem Ok.mono {B C:Int} (h:B<=C):∀ {l:Lad},l.Ok B->l.Ok C
 | .nil,_=>trivial
 | .cons e m r,⟨h1,h2,h3,h4,h5⟩=>⟨Ok.mono h h1,h2,by omega,Ok.mono h h4,h5⟩
theorem ok_ps {B:Int}:∀ {ps:List (Lad × Int)},(ofPs ps).Ok B ↔ (∀ p ∈ ps,p.1.Ok B/\1<=p.2/\p.2 < B)/\ps.Pairwise (fun p q=>q.1.lt p.1=true)
 | []=>by simp [ofPs,Ok]
 | (e,m)::r=>by
  have ih:=ok_ps (B:=B) (ps:=r)
  show (e.Ok B/\1<=m/\m < B/\(ofPs r).Ok B/\∀ p ∈ (ofPs r).ps,p.1.lt e=true) ↔ _
  rw [ps_ofPs,List.pairwise_cons,ih]
  constructor
  ·rintro ⟨h1,h2,h3,⟨h4,h5⟩,h6⟩
   refine ⟨fun p hp=>?_,h6,h5⟩
   rcases List.mem_cons.mp hp with hp | hp
   ·subst hp; exact ⟨h1,h2,h3⟩
   ·exact h4 p hp
  ·rintro ⟨h1,h2,h3⟩
   have h4:=h1 (e,m) (mcs ..)
   exact ⟨h4.1,h4.2.1,h4.2.2,⟨fun p hp=>h1 p (mcm _ hp),h3⟩,h2⟩
theorem ok_iff {B:Int} {l:Lad}:l.Ok B ↔ (∀ p ∈ l.ps,p.1.Ok B/\1<=p.2/\p.2 < B)/\l.ps.Pairwise (fun p q=>q.1.lt p.1=true):=by
 have:=ok_ps (B:=B) (ps:=l.ps)
 rw [ofPs_ps] at this
 exact this
end Lad
section
variable {P:Program} {w:World} {K:PySem.W.Frag} {mg:Str->Option Value} {base:Heap} {f:Addr} {fd:FuncData}
def spLaw (K:PySem.W.Frag):Sp:=fun vs H Q _=>∃ (a:Addr) (ns:List Int),vs=[.ref a]/\SqL K H a (ns.map V.int)/\ns.length<=63/\∀ H',Q (.bl true) H'
theorem none_sp {ps:List Str} {k:Nat} {sp:Sp} (no:∀ vs H Q E,¬ sp vs H Q E):FnOk P w K mg base CX0 k f fd ps sp :=
 ⟨fun vs H Q E h=>absurd h (no vs H Q E),fun A outer s H args us vs Q E _ _ _ _ h=>absurd h (no vs H Q E)⟩
end
namespace Lad
theorem lays:∀ l:Lad,PyData.canLayAll0 l.encs=true
 | .nil=>by simp [encs,PyData.canLayAll0]
 | .cons e m r=>by simp [encs,PyData.canLayAll0,PyData.canLay0,lays e,lays r]
theorem shaped_enc {l:Lad} (h:l.deep<=31):SeqAt.shaped l.enc=true:=by
 have:=l.enc_depth
 unfold SeqAt.shaped
 rw [show l.enc.canLay0=true by rw [enc,PyData.canLay0]; exact lays l]
 simp; omega
theorem pEnc_alike (p q:Lad × Int):alike (pEnc p) (pEnc q)=true:=by simp [pEnc,alike,alikeAll,p.1.alike_enc q.1]
theorem pEnc_noList (p:Lad × Int):noList (pEnc p)=true:=by simp [pEnc,noList,noLists,Lad.noList_enc]
theorem pEnc_depth (p:Lad × Int):(pEnc p).depth<=2*p.1.deep+2:=by
 have:=p.1.enc_depth
 simp only [pEnc,PyData.depth,PyData.depthAll]; omega
theorem pEnc_all (bs:List (Lad × Int)):AllAlike (bs.map pEnc):=AllAlike.of pEnc_alike
theorem pEnc_sortable (bs:List (Lad × Int)):Sortable (bs.map pEnc):=Sortable.tuples fun b=>⟨_,_,rfl⟩
theorem pLt (p q:Lad × Int):dataLt (pEnc p) (pEnc q)=if p.1=q.1 then decide (p.2 < q.2) else p.1.lt q.1:=by
 unfold pEnc
 rw [dataLt_pair (p.1.alike_enc q.1) (by simp [alike]),Lad.eqv_enc]
 by_cases h:p.1=q.1
 ·rw [if_pos (by simp [h]),if_pos h,dataLt_int]
  by_cases h2:p.2=q.2
  ·simp [PyData.eqv,h2]
  ·simp [PyData.eqv,h2]
 ·rw [if_neg (by simp [h]),if_neg h]; rfl
def tot:List (Lad × Int)->Nat
 | []=>0
 | p::r=>1+p.1.parts+tot r
theorem parts_ofPs:∀ bs:List (Lad × Int),(ofPs bs).parts=tot bs
 | []=>rfl
 | (e,m)::r=>by show 1+e.parts+(ofPs r).parts=1+e.parts+tot r; rw [parts_ofPs r]
theorem tot_append:∀ bs cs:List (Lad × Int),tot (bs++cs)=tot bs+tot cs
 | [],cs=>by simp [tot]
 | p::r,cs=>by show 1+p.1.parts+tot (r++cs)=_; rw [tot_append r cs,tot]; omega
theorem tot_filter (f:Lad × Int->Bool):∀ bs:List (Lad × Int),tot (bs.filter f)<=tot bs
 | []=>by simp [tot]
 | p::r=>by
  have:=tot_filter f r
  rw [List.filter_cons]
  split
  ·show 1+p.1.parts+tot (r.filter f)<=1+p.1.parts+tot r; omega
  ·show tot (r.filter f)<=1+p.1.parts+tot r; omega
theorem tot_perm {bs cs:List (Lad × Int)} (h:bs.Perm cs):tot bs=tot cs:=by
 induction h with
 | nil=>rfl
 | cons x _ ih=>simp only [tot]; omega
 | swap x y l=>simp only [tot]; omega
 | trans _ _ h1 h2=>omega
theorem deep_ofPs {n:Nat}:∀ {bs:List (Lad × Int)},(∀ b ∈ bs,b.1.deep < n)->(ofPs bs).deep<=n
 | [],_=>Nat.zero_le _
 | (e,m)::r,h=>by
  have h1:=deep_ofPs (bs:=r) fun b hb=>h b (mcm _ hb)
  have h2:e.deep < n:=h (e,m) (mcs ..)
  show max (1+e.deep) (ofPs r).deep<=n
  omega
end Lad
theorem Bears_la {K:PySem.W.Frag} {H:Hp} {a:Addr} {xs:List V} {bs:List (Lad × Int)} (h:SqT K H a xs) (hb:Bears K H Lad.pEnc xs bs):LA K H (.ref a) (Lad.ofPs bs):=by
 refine Dp.tup h ?_
 rw [Lad.encs_ps,Lad.ps_ofPs]
 exact hb.dp
theorem LA_bears {K:PySem.W.Frag} {H:Hp} {v:V} {l:Lad} (h:LA K H v l):∃ a xs,v=.ref a/\SqT K H a xs/\Bears K H Lad.pEnc xs l.ps:=by
 obtain ⟨a,xs,rfl,hs,ha⟩:=h.tup
 rw [Lad.encs_ps] at ha
 exact ⟨a,xs,rfl,hs,Bears.of ha⟩
def rCatB (K:PySem.W.Frag):R2:=fun x y H Q=>∃ a b xs ys,x=.ref a/\y=.ref b/\SqT K H a xs/\SqT K H b ys/\xs.length+ys.length<=10000000/\∀ c H',SB [] H H'->SqT K H' c (xs++ys)->Q (.ref c) H'
def rSlB (K:PySem.W.Frag):V->Option Int->Option Int->Hp->VK->Prop:=fun x lo hi H Q=>∃ a xs,x=.ref a/\SqT K H a xs/\∀ c H',SB [] H H'->SqT K H' c (cutV xs lo hi)->Q (.ref c) H'
section
variable {X:Cx}
theorem op_catB:OpR X (binaryOp .Add) (rCatB X.K):=by
 intro pins s σ H x y v u Q I rx ry h
 obtain ⟨a,b,xs,ys,rfl,rfl,ha,hb,hz,q⟩:=h
 refine op_catA pins s σ H _ _ v u Q I rx ry ⟨a,b,xs,ys,rfl,rfl,ha,hb,by rw [sizeLine_eq]; omega,fun e=>?_,fun e1 e2=>?_,fun e1 e2 p hp=>?_⟩
 ·subst e; exact q b H SB.refl hb
 ·subst e2; exact q a H SB.refl (by rw [List.append_nil]; exact ha)
 ·exact q p _ (SB.new hp _) (SqT.of upd_same)
theorem sl_tupB:SlR X (rSlB X.K):=by
 intro pins s σ H x v vl vu lo hi sl Q I rx hs pl pu h
 obtain ⟨a,xs,rfl,hx,q⟩:=h
 refine sl_tupA pins s σ H _ v vl vu lo hi sl Q I rx hs pl pu ⟨a,xs,rfl,hx,fun e=>?_,fun e p hp=>?_⟩
 ·refine q a H SB.refl ?_
  have:cutV xs lo hi=xs:=by
   unfold cutV
   rw [e.1,e.2]
   simp
  rw [this]; exact hx
 ·exact q p _ (SB.new hp _) (SqT.of upd_same)
end
theorem cutTake (xs:List V) (k:Nat):cutV xs none (some (k:Int))=xs.take k:=by
 unfold cutV
 have h1:HT.sIx xs.length 0 none=0:=rfl
 have h2:HT.sIx xs.length xs.length (some (k:Int))=min k xs.length:=HT.sIx_nat xs.length xs.length k
 rw [h1,h2]
 simp
theorem cutDrop (xs:List V) (k:Nat):cutV xs (some (k:Int)) none=xs.drop k:=by
 unfold cutV
 have h1:HT.sIx xs.length 0 (some (k:Int))=min k xs.length:=HT.sIx_nat xs.length 0 k
 have h2:HT.sIx xs.length xs.length none=xs.length:=rfl
 rw [h1,h2]
 by_cases h:k<=xs.length
 ·rw [Nat.min_eq_left h,List.take_of_length_le (by rw [List.length_drop]; omega)]
 ·rw [Nat.min_eq_right (by omega),List.drop_eq_nil_of_le (Nat.le_refl _),List.drop_eq_nil_of_le (by omega)]
  simp
namespace Lad
def sumAt (ps:List (Lad × Int)) (e:Lad):Int:=((ps.filter fun p=>decide (p.1=e)).map (·.2)).sum
def bhd (l k:Lad):Lad:=match k.ps with
 | []=>l
 | (e,m)::r=>ofPs (l.ps.filter (fun p=>e.lt p.1)++(e,sumAt l.ps e+m)::r)
theorem bhd_nil (l:Lad):bhd l .nil=l:=rfl
theorem bhd_cons (l e:Lad) (m:Int) (r:Lad):bhd l (.cons e m r)=ofPs (l.ps.filter (fun p=>e.lt p.1)++(e,sumAt l.ps e+m)::r.ps):=rfl
end Lad
def spManyAt (K:PySem.W.Frag):Sp:=fun vs H Q _=>∃ (v u:V) (l e:Lad),vs=[v,u]/\LA K H v l/\LA K H u e/\l.deep<=30/\e.deep<=30/\l.parts<=1000000/\∀ H',SB [] H H'->Q (.int (Lad.sumAt l.ps e)) H'
def spBehind (K:PySem.W.Frag):Sp:=fun vs H Q _=>∃ (v u:V) (l k:Lad),vs=[v,u]/\LA K H v l/\LA K H u k/\l.deep<=30/\k.deep<=30/\l.parts<=900000/\k.parts<=900000/\∀ (x:V) (H':Hp),SB [] H H'->LA K H' x (l.bhd k)->Q x H'
namespace Lad
theorem deep_parts_mem {l:Lad} {n:Nat} (h:l.deep<=n):∀ p ∈ l.ps,p.1.deep < n:=fun p hp=>Nat.lt_of_lt_of_le (mem_deep l p hp) h
end Lad
namespace Lad
theorem bhd_parts (l k:Lad):(bhd l k).parts<=l.parts+k.parts:=by
 cases k with
 | nil=>rw [bhd_nil]; omega
 | cons e m r =>
  rw [bhd_cons,parts_ofPs,tot_append]
  have h1:l.parts=tot l.ps:=by rw [<- parts_ofPs,ofPs_ps]
  have h2:=tot_filter (fun p=>e.lt p.1) l.ps
  have h3:r.parts=tot r.ps:=by rw [<- parts_ofPs,ofPs_ps]
  simp only [tot,Lad.parts]
  omega
theorem bhd_deep {n:Nat} {l k:Lad} (hl:l.deep<=n) (hk:k.deep<=n):(bhd l k).deep<=n:=by
 cases k with
 | nil=>rw [bhd_nil]; exact hl
 | cons e m r =>
  rw [bhd_cons]
  refine deep_ofPs fun b hb=>?_
  rcases List.mem_append.mp hb with hb | hb
  ·exact deep_parts_mem hl b (List.mem_filter.mp hb).1
  ·rcases List.mem_cons.mp hb with hb | hb
   ·subst hb; exact deep_parts_mem hk (e,m) (mcs ..)
   ·exact deep_parts_mem hk b (mcm _ hb)
end Lad
namespace Lad
theorem lt_ps (p q:Lad × Int) (r s:List (Lad × Int)):(ofPs (p::r)).lt (ofPs (q::s))=if p.1=q.1 then (if p.2=q.2 then (ofPs r).lt (ofPs s) else decide (p.2 < q.2)) else p.1.lt q.1:=lt_cons _ _ _ _ _ _
theorem lt_drop {l o:Lad} {k:Nat} {p q:Lad × Int} (hp:l.ps[k]?=some p) (hq:o.ps[k]?=some q):(ofPs (l.ps.drop k)).lt (ofPs (o.ps.drop k))=if p.1=q.1 then (if p.2=q.2 then (ofPs (l.ps.drop (k+1))).lt (ofPs (o.ps.drop (k+1))) else decide (p.2 < q.2)) else p.1.lt q.1:=by
 have h1:k < l.ps.length:=(List.getElem?_eq_some_iff.mp hp).1
 have h2:k < o.ps.length:=(List.getElem?_eq_some_iff.mp hq).1
 have e1:l.ps[k]=p:=(List.getElem?_eq_some_iff.mp hp).2
 have e2:o.ps[k]=q:=(List.getElem?_eq_some_iff.mp hq).2
 rw [List.drop_eq_getElem_cons h1,List.drop_eq_getElem_cons h2,e1,e2,lt_ps]
theorem lt_end {l o:Lad} {k:Nat} (hk:k<=l.ps.length) (hk2:k<=o.ps.length) (h:¬ (k < l.ps.length/\k < o.ps.length)):(ofPs (l.ps.drop k)).lt (ofPs (o.ps.drop k))=(decide (k=l.ps.length)&&decide (k < o.ps.length)):=by
 by_cases h1:k=l.ps.length
 ·rw [List.drop_eq_nil_of_le (show l.ps.length<=k by omega)]
  by_cases h2:k < o.ps.length
  ·rw [List.drop_eq_getElem_cons h2]
   show Lad.lt .nil (.cons _ _ _)=_
   rw [lt_nil_cons]; simp [h1]; omega
  ·rw [List.drop_eq_nil_of_le (by omega)]
   show Lad.lt .nil .nil=_
   rw [lt_nil_nil]; simp; intro _; omega
 ·have h2:¬ k < o.ps.length:=by omega
  rw [List.drop_eq_nil_of_le (as:=o.ps) (by omega)]
  show Lad.lt _ .nil=_
  rw [lt_nil_r]; simp [h1]
end Lad
def spLLess (K:PySem.W.Frag) (n:Nat):Sp:=fun vs H Q _=>∃ (v u:V) (l k:Lad),vs=[v,u]/\LA K H v l/\LA K H u k/\l.deep < n/\l.deep<=30/\k.deep<=30/\∀ H',SB [] H H'->Q (.bl (l.lt k)) H'
section
variable {prog:Program} {w:World} {A:Around} {E:Value->Shared->Prop} {s:Shared} {β:Type} {vs:List Value} {bs:List β} {enc:β->PyData} {R:Value->β->Prop}
theorem sorted_tupK {t:Addr} {kw:List (Str × Value)} {b:Bool} {Q:Value->Shared->Prop} (hkw:∀ a,Builtin.«list.sort» ⟨[.ref a],kw⟩=Builtin.«list.sort» ⟨[.ref a],[(Str.ofString "reverse",.bool b)]⟩) (ha1:argsOk "sorted" ⟨[.ref t],kw⟩) (ha2:∀ x,argsOk "list.sort" ⟨[.ref x],kw⟩)
  (ht:IsTup s.heap t vs.toArray) (e:EachIs R vs bs) (er:EachIs (fun v b=>∃ as,Reads s.heap v (enc b) as) vs bs) (hal:AllAlike (bs.map enc)) (hk:Sortable (bs.map enc)) (hL:bs.length<=sizeLine)
  (hu:∀ b,b ∈ bs->A.units+2+(enc b).depth < cLine)
  (h:∀ (out:List Value) (h' h2:Heap) (n:Nat),(∀ b o,s.heap.get? b=some o->h'.get? b=some o)->(∀ b o,h'.get? b=some o->h2.get? b=some o)->h2.get? h'.objs.size=some (seqObj "list" out.toArray n)->out.length=bs.length->EachIs R out (bs.mergeSort (dataLe b enc))->Q (.ref h'.objs.size) { s with heap:=h2 }) :
  wpAny (model prog w) A (call (.builtin "sorted") [.ref t] kw) Q E s:=by
 have hlen:vs.length<=sizeLine:=by rw [e.length]; exact hL
 obtain ⟨o,ho,hc,n0,hd⟩:=id ht
 refine call_function_entry_kw kind_sorted plain_sorted entry_sorted ha1 ?_
 unfold Builtin.«sorted»
 refine wpAny_bind (m:=checkCount "sorted" 1 1 _) (wpAny_pure ?_)
 refine wpAny_bind (wpAny_collect_seq t (.inr rfl) ho hc hd (fun h' hk'=>?_) (by rw [List.size_toArray]; exact hlen))
 refine wpAny_bind (wpAny_newList ?_ hlen)
 show wpAny _ _ _ _ _ { s with heap:=h'.push (seqObj "list" vs.toArray 0) }
 have hat:(h'.push (seqObj "list" vs.toArray 0)).get? h'.objs.size=some (seqObj "list" vs.toArray 0):=Heap.get?_push_size _ rfl
 refine wpAny_bind (wpAny_holding (wpAny_call_entry_kw slot_list_sort ⟨_,hat,rfl⟩ entry_list_sort ?body (ha2 _)))
 case body =>
  rw [hkw]
  have old:∀ b o,h'.get? b=some o->(sortingHeap (h'.push (seqObj "list" vs.toArray 0)) h'.objs.size vs).get? b=some o:=fun b o q=>sortingHeap_old (Nat.ne_of_lt (Heap.lt_size q)) (Heap.get?_push_of_some _ q)
  have er':EachIs (fun v b=>∃ as,Reads (sortingHeap (h'.push (seqObj "list" vs.toArray 0)) h'.objs.size vs) v (enc b) as) vs bs:=er.mono fun _ _ ⟨as,r⟩=>⟨as,PyProof.Rows.Reads.keeps (fun b o q=>old b o (hk' b o q)) r⟩
  refine list_sort_rev_vals (s:={ s with heap:=h'.push (seqObj "list" vs.toArray 0) }) (κ:=dataKind (sortingHeap (h'.push (seqObj "list" vs.toArray 0)) h'.objs.size vs) (bs.map enc)) hat (SortsAt.data (s:={ s with heap:=sortingHeap (h'.push (seqObj "list" vs.toArray 0)) h'.objs.size vs }) (each_map (R:=fun v d=>∃ as,Reads (sortingHeap (h'.push (seqObj "list" vs.toArray 0)) h'.objs.size vs) v d as) enc er') hal hk (bound_map hu)) hlen ?_
  refine ⟨_,rfl,wpAny_pure ⟨_,rfl,?_⟩⟩
  obtain ⟨n2,hn2⟩:=sortedHeap_at (out:=(sortVals (dataKind (sortingHeap (h'.push (seqObj "list" vs.toArray 0)) h'.objs.size vs) (bs.map enc)) b vs vs).toArray) hat
  refine h _ h' _ n2 hk' (fun b o q=>?_) hn2 (by rw [sortVals_length b rfl]; exact e.length) (sortVals_data b e er' hal)
  rw [sortedHeap_old (Nat.ne_of_lt (Heap.lt_size q)) (by rw [size_push']; exact Nat.lt_succ_of_lt (Heap.lt_size q))]
  exact Heap.get?_push_of_some _ q
end
def rSortedT (K:PySem.W.Frag) {β:Type} (enc:β->PyData) (b:Bool) (vs:List V) (H:Hp) (Q:VK):Prop:=∃ (a:Addr) (xs:List V) (bs:List β),vs=[V.ref a]/\SqT K H a xs/\Bears K H enc xs bs/\AllAlike (bs.map enc)/\Sortable (bs.map enc)/\bs.length<=10000000/\(∀ b ∈ bs,(enc b).depth<=100) /\
 ∀ (p:Addr) (ys:List V),H p=none->Bears K H enc ys (bs.mergeSort (dataLe b enc))->Q (.ref p) (upd H p (.lst ys))
section
variable {X:Cx}
theorem sortedT_run {β:Type} {enc:β->PyData} {b:Bool} {kw:List (Str × Value)} (hu:X.A.units+110 < cLine) (hkw:∀ a,Builtin.«list.sort» ⟨[.ref a],kw⟩=Builtin.«list.sort» ⟨[.ref a],[(Str.ofString "reverse",.bool b)]⟩) (ha1:∀ t,argsOk "sorted" ⟨[.ref t],kw⟩) (ha2:∀ x,argsOk "list.sort" ⟨[.ref x],kw⟩)
  {pins:List (Addr × Obj)} {s:Shared} {σ:L2.St} {H:Hp} {vs:List V} {us:List Value} {Q:VK} (I:Inv X pins σ H s) (r:Vals vs us) (h:rSortedT X.K enc b vs H Q):wpAny (model X.prog X.w) X.A (call (.builtin "sorted") us kw) (EP X pins σ Q) X.xe s:=by
 obtain ⟨a,xs,bs,rfl,hs,hb,hal,hsr,hl,hd,q⟩:=h
 obtain ⟨its,rv,hli,_⟩:=I.tuple hs
 rw [Vals.ref1 r]
 obtain ⟨e1,e2⟩:=each_of I hb rv
 refine sorted_tupK (vs:=its) (bs:=bs) (enc:=enc) (R:=fun u b=>∃ v,RelV v u/\Dp X.K H v (enc b)) hkw (ha1 _) ha2 hli e1 e2 hal hsr (by rw [sizeLine_eq]; omega) (fun b m=>by have:=hd b m; omega) fun out h' h2 n k1 k2 hat ho h1=>?_
 obtain ⟨ys,g2,g3⟩:=of_each h1
 have I':Inv X pins σ H { s with heap:=h' }:=I.kept (t':=s.toks) k1
 have hlen:ys.length<=sizeLine:=by rw [g2.length,ho,sizeLine_eq]; omega
 exact ⟨.ref _,upd H h'.objs.size (.lst ys),I'.laid (t':=s.toks) (fun b o e=>k2 b o e) (Nat.le_refl _) ⟨hlen,out,n,g2,hat⟩,rfl,q _ ys (I'.hok.fresh (Nat.le_refl _)) g3⟩
theorem cr_sortedT {β:Type} (enc:β->PyData) (hu:X.A.units+110 < cLine):CallR X (.builtin "sorted") (rSortedT X.K enc false):=by
 intro pins s σ H vs us Q I r h
 exact sortedT_run (kw:=[]) hu plain_is_rev (fun _=>args_sorted1 _) (fun _=>args_list_sort _) I r h
end
section
variable {γ:Type} [DecidableEq γ]
def pairE (enc:γ->PyData) (p:γ × Int):PyData:=.tuple [enc p.1,.int p.2]
def jstep (acc:List (γ × Int)) (p:γ × Int):List (γ × Int):=match acc.getLast? with
 | some q=>if q.1=p.1 then acc.dropLast++[(p.1,q.2+p.2)] else acc++[p]
 | none=>[p]
def jn (bs:List (γ × Int)):List (γ × Int):=bs.foldl jstep []
theorem jstep_nil (p:γ × Int):jstep [] p=[p]:=rfl
theorem jstep_snoc (acc:List (γ × Int)) (q p:γ × Int):jstep (acc++[q]) p=if q.1=p.1 then acc++[(p.1,q.2+p.2)] else acc++[q]++[p]:=by
 unfold jstep
 rw [List.getLast?_append]
 simp
theorem jstep_length (acc:List (γ × Int)) (p:γ × Int):(jstep acc p).length<=acc.length+1:=by
 rcases List.eq_nil_or_concat acc with h | ⟨a,q,h⟩
 ·subst h; simp [jstep]
 ·subst h
  rw [List.concat_eq_append,jstep_snoc]
  split <;> simp
theorem jn_take (bs:List (γ × Int)) (i:Nat) (p:γ × Int) (h:bs[i]?=some p):jn (bs.take (i+1))=jstep (jn (bs.take i)) p:=by
 unfold jn
 rw [List.take_add_one,h,List.foldl_append]
 rfl
theorem jn_length (bs:List (γ × Int)):(jn bs).length<=bs.length:=by
 have key:∀ (bs acc:List (γ × Int)),(bs.foldl jstep acc).length<=acc.length+bs.length:=by
  intro bs
  induction bs with
  | nil=>intro acc; simp
  | cons p r ih =>
   intro acc
   have h1:=ih (jstep acc p)
   have h2:=jstep_length acc p
   show (r.foldl jstep (jstep acc p)).length<=_
   rw [List.length_cons]
   omega
 have:=key bs []
 simpa [jn] using this
theorem jn_keys (bs:List (γ × Int)):∀ p ∈ jn bs,∃ q ∈ bs,q.1=p.1:=by
 have key:∀ (bs acc:List (γ × Int)),∀ p ∈ bs.foldl jstep acc,(∃ q ∈ acc,q.1=p.1)\/∃ q ∈ bs,q.1=p.1:=by
  intro bs
  induction bs with
  | nil=>intro acc p hp; exact .inl ⟨p,hp,rfl⟩
  | cons x r ih =>
   intro acc p hp
   rcases ih (jstep acc x) p hp with ⟨q,hq,e⟩ | ⟨q,hq,e⟩
   ·rcases List.eq_nil_or_concat acc with h | ⟨a,z,h⟩
    ·subst h
     rw [jstep_nil] at hq
     have:q=x:=by simpa using hq
     subst this
     exact .inr ⟨q,mcs ..,e⟩
    ·subst h
     rw [List.concat_eq_append] at hq ⊢
     rw [jstep_snoc] at hq
     by_cases hz:z.1=x.1
     ·rw [if_pos hz] at hq
      rcases List.mem_append.mp hq with hq | hq
      ·exact .inl ⟨q,mal _ hq,e⟩
      ·have:q=(x.1,z.2+x.2):=by simpa using hq
       subst this
       exact .inr ⟨x,mcs ..,e⟩
     ·rw [if_neg hz] at hq
      rcases List.mem_append.mp hq with hq | hq
      ·exact .inl ⟨q,hq,e⟩
      ·have:q=x:=by simpa using hq
       subst this
       exact .inr ⟨q,mcs ..,e⟩
   ·exact .inr ⟨q,mcm _ hq,e⟩
 intro p hp
 rcases key bs [] p hp with ⟨q,hq,_⟩ | h
 ·cases hq
 ·exact h
theorem jn_id {bs:List (γ × Int)} (h:bs.Pairwise (fun a b=>a.1 ≠ b.1)):jn bs=bs:=by
 have key:∀ (bs acc:List (γ × Int)),(acc++bs).Pairwise (fun a b=>a.1 ≠ b.1)->bs.foldl jstep acc=acc++bs:=by
  intro bs
  induction bs with
  | nil=>intro acc _; simp
  | cons x r ih =>
   intro acc hp
   have e:jstep acc x=acc++[x]:=by
    rcases List.eq_nil_or_concat acc with h | ⟨a,z,h⟩
    ·subst h; rfl
    ·subst h
     rw [List.concat_eq_append] at hp ⊢
     rw [jstep_snoc,if_neg]
     have h2:=(List.pairwise_append.mp hp).2.2 z (by simp) x (mcs ..)
     exact h2
   show r.foldl jstep (jstep acc x)=_
   rw [e,ih]
   ·simp
   ·simpa using hp
 have:=key bs [] (by simpa using h)
 simpa [jn] using this
end
def spJoined (K:PySem.W.Frag) {γ:Type} [DecidableEq γ] (enc:γ->PyData):Sp:=fun vs H Q _=>∃ (a:Addr) (xs:List V) (bs:List (γ × Int)),vs=[.ref a]/\SqL K H a xs/\Bears K H (pairE enc) xs bs/\bs.length<=2000000/\(∀ b ∈ bs,SeqAt.shaped (enc b.1)=true) /\
 ∀ (c:Addr) (ys:List V) (H':Hp),SB [] H H'->SqT K H' c ys->Bears K H' (pairE enc) ys (jn bs)->Q (.ref c) H'
theorem pair_at {K:PySem.W.Frag} {H:Hp} {γ:Type} {enc:γ->PyData} {v:V} {p:γ × Int} (h:Dp K H v (pairE enc p)):∃ a u,v=.ref a/\SqT K H a [u,.int p.2]/\Dp K H u (enc p.1):=by
 have h':Dp K H v (.tuple [enc p.1,.int p.2]):=h
 cases h' with
 | tup hs ha =>
  cases ha with
  | cons a1 a2 =>
   cases a2 with
   | cons b1 b2 =>
    cases b2
    cases b1
    exact ⟨_,_,rfl,hs,a1⟩
theorem pairE_noList {γ:Type} {enc:γ->PyData} (hn:∀ g,noList (enc g)=true) (p:γ × Int):noList (pairE enc p)=true:=by simp [pairE,noList,noLists,hn]
theorem pair_mk {K:PySem.W.Frag} {H:Hp} {γ:Type} {enc:γ->PyData} {a:Addr} {u:V} {g:γ} {m:Int} (h:SqT K H a [u,.int m]) (h2:Dp K H u (enc g)):Dp K H (.ref a) (pairE enc (g,m)):=Dp.tup h (.cons h2 (.cons (.int m) .nil))
theorem Bears.snoc {K:PySem.W.Frag} {H:Hp} {β:Type} {enc:β->PyData} {vs:List V} {bs:List β} {b:β} (h:Bears K H enc vs (bs++[b])):∃ us u,vs=us++[u]/\Bears K H enc us bs/\Dp K H u (enc b):=by
 induction bs generalizing vs with
 | nil =>
  cases h with
  | cons h1 h2=>cases h2; exact ⟨[],_,rfl,.nil,h1⟩
 | cons c r ih =>
  cases h with
  | cons h1 h2 =>
   obtain ⟨us,u,e,h3,h4⟩:=ih h2
   exact ⟨_::us,u,by rw [e]; rfl,.cons h1 h3,h4⟩
theorem at_last {xs:List V} {x:V}:atI (xs++[x]) (-1)=some x:=by
 unfold atI ixN
 rw [if_neg (by decide),if_pos (by rw [List.length_append,List.length_singleton]; omega)]
 simp only [List.length_append,List.length_singleton,Option.bind_some]
 have:((-1:Int)+((xs.length+1:Nat):Int)).toNat=xs.length:=by omega
 rw [this]
 simp
theorem ixN_last {xs:List V} {x:V}:ixN (xs++[x]).length (-1)=some xs.length:=by
 unfold ixN
 rw [if_neg (by decide),if_pos (by rw [List.length_append,List.length_singleton]; omega),List.length_append,List.length_singleton]
 congr 1; omega
theorem set_last {xs:List V} {x y:V}:(xs++[x]).set xs.length y=xs++[y]:=by simp
namespace Lad
theorem anti {a b:Lad × Int} (h1:dataLt (pEnc a) (pEnc b)=false) (h2:dataLt (pEnc b) (pEnc a)=false):a=b:=by
 rw [pLt] at h1 h2
 by_cases h:a.1=b.1
 ·rw [if_pos h] at h1
  rw [if_pos h.symm] at h2
  have e1:=of_decide_eq_false h1
  have e2:=of_decide_eq_false h2
  exact Prod.ext h (by omega)
 ·rw [if_neg h] at h1
  rw [if_neg (fun z:b.1=a.1=>h z.symm),lt_tri _ _ h h1] at h2
  cases h2
abbrev dsc (bs:List (Lad × Int)):List (Lad × Int):=bs.mergeSort (dataLe true pEnc)
theorem dsc_perm (bs:List (Lad × Int)):(dsc bs).Perm bs:=List.mergeSort_perm _ _
theorem dsc_le (bs:List (Lad × Int)):(dsc bs).Pairwise (fun a b=>dataLt (pEnc a) (pEnc b)=false):=by
 have h:=sort_pairwise (le:=dataLe true pEnc) (sortLe_total _ _ _) bs
 refine h.imp fun {a b} hab=>?_
 have h2:(!dataLt (pEnc a) (pEnc b))=true:=hab
 simpa using h2
theorem falls_one:∀ {as bs:List (Lad × Int)},as.Perm bs->as.Pairwise (fun a b=>dataLt (pEnc a) (pEnc b)=false)->bs.Pairwise (fun a b=>dataLt (pEnc a) (pEnc b)=false)->as=bs
 | [],bs,h,_,_=>(List.nil_perm.mp h).symm
 | a::as,[],h,_,_=>by have:=h.length_eq; simp at this
 | a::as,b::bs,h,h1,h2=>by
  have hab:a=b:=by
   have ha:a ∈ b::bs:=h.mem_iff.mp (mcs ..)
   have hb:b ∈ a::as:=h.mem_iff.mpr (mcs ..)
   rcases List.mem_cons.mp ha with ha | ha
   ·exact ha
   ·rcases List.mem_cons.mp hb with hb | hb
    ·exact hb.symm
    ·exact anti ((List.pairwise_cons.mp h1).1 b hb) ((List.pairwise_cons.mp h2).1 a ha)
  subst hab
  rw [falls_one (List.Perm.cons_inv h) (List.pairwise_cons.mp h1).2 (List.pairwise_cons.mp h2).2]
theorem dsc_of {cs bs:List (Lad × Int)} (hp:cs.Perm bs) (hs:cs.Pairwise (fun a b=>dataLt (pEnc a) (pEnc b)=false)):cs=dsc bs:=falls_one (hp.trans (dsc_perm bs).symm) hs (dsc_le bs)
theorem dsc_swap (as bs:List (Lad × Int)):dsc (as++bs)=dsc (bs++as):=dsc_of ((dsc_perm _).trans List.perm_append_comm) (dsc_le _)
def bth (l k:Lad):Lad:=ofPs (jn (dsc (l.ps++k.ps)))
theorem bth_comm (l k:Lad):bth l k=bth k l:=by unfold bth; rw [dsc_swap]
theorem ok_falls {B:Int} {l:Lad} (h:l.Ok B):l.ps.Pairwise (fun a b=>dataLt (pEnc a) (pEnc b)=false)/\l.ps.Pairwise (fun a b=>a.1 ≠ b.1):=by
 have h2:=(ok_iff.mp h).2
 constructor
 ·refine h2.imp fun {a b} hab=>?_
  rw [pLt,if_neg (fun z:a.1=b.1=>lt_ne hab z.symm)]
  exact lt_asymm hab
 ·exact h2.imp fun {a b} hab (z:a.1=b.1)=>lt_ne hab z.symm
theorem bth_nil {B:Int} {l:Lad} (h:l.Ok B):bth l .nil=l:=by
 unfold bth
 rw [show l.ps++(Lad.nil).ps=l.ps by simp [ps],<- dsc_of (List.Perm.refl _) (ok_falls h).1,jn_id (ok_falls h).2,ofPs_ps]
theorem tot_jstep (acc:List (Lad × Int)) (p:Lad × Int):tot (jstep acc p)<=tot acc+(1+p.1.parts):=by
 rcases List.eq_nil_or_concat acc with h | ⟨a,z,h⟩
 ·subst h; simp [jstep_nil,tot]
 ·subst h
  rw [List.concat_eq_append,jstep_snoc]
  by_cases hz:z.1=p.1
  ·rw [if_pos hz,tot_append,tot_append]; simp only [tot]; rw [hz]; omega
  ·rw [if_neg hz,tot_append,tot_append]; simp only [tot]; omega
theorem tot_jn (bs:List (Lad × Int)):tot (jn bs)<=tot bs:=by
 have key:∀ (bs acc:List (Lad × Int)),tot (bs.foldl jstep acc)<=tot acc+tot bs:=by
  intro bs
  induction bs with
  | nil=>intro acc; simp [tot]
  | cons x r ih =>
   intro acc
   have h1:=ih (jstep acc x)
   have h2:=tot_jstep acc x
   show tot (r.foldl jstep (jstep acc x))<=tot acc+(1+x.1.parts+tot r)
   omega
 have:=key bs []
 simpa [jn,tot] using this
theorem bth_parts (l k:Lad):(bth l k).parts<=l.parts+k.parts:=by
 unfold bth
 rw [parts_ofPs]
 have h1:=tot_jn (dsc (l.ps++k.ps))
 rw [tot_perm (dsc_perm _),tot_append] at h1
 have h2:l.parts=tot l.ps:=by rw [<- parts_ofPs,ofPs_ps]
 have h3:k.parts=tot k.ps:=by rw [<- parts_ofPs,ofPs_ps]
 omega
theorem bth_deep {n:Nat} {l k:Lad} (hl:l.deep<=n) (hk:k.deep<=n):(bth l k).deep<=n:=by
 unfold bth
 refine deep_ofPs fun b hb=>?_
 obtain ⟨q,hq,e⟩:=jn_keys _ b hb
 rw [<- e]
 rcases List.mem_append.mp ((dsc_perm _).mem_iff.mp hq) with h | h
 ·exact deep_parts_mem hl q h
 ·exact deep_parts_mem hk q h
def tms (l:Lad) (m:Int):Lad:=if m=0 then .nil else ofPs (l.ps.map fun p=>(p.1,p.2*m))
theorem tot_map (f:Int->Int):∀ bs:List (Lad × Int),tot (bs.map fun p=>(p.1,f p.2))=tot bs
 | []=>rfl
 | p::r=>by show 1+p.1.parts+tot _=1+p.1.parts+tot r; rw [tot_map f r]
theorem tms_parts (l:Lad) (m:Int):(tms l m).parts<=l.parts:=by
 unfold tms
 split
 ·exact Nat.zero_le _
 ·rw [parts_ofPs,tot_map (fun x=>x*m),<- parts_ofPs,ofPs_ps]; exact Nat.le_refl _
theorem tms_deep {n:Nat} {l:Lad} (m:Int) (h:l.deep<=n):(tms l m).deep<=n:=by
 unfold tms
 split
 ·exact Nat.zero_le _
 ·refine deep_ofPs fun b hb=>?_
  obtain ⟨p,hp,rfl⟩:=List.mem_map.mp hb
  exact deep_parts_mem h p hp
end Lad
def spBoth (K:PySem.W.Frag):Sp:=fun vs H Q _=>∃ (v u:V) (l k:Lad),vs=[v,u]/\LA K H v l/\LA K H u k/\l.deep<=30/\k.deep<=30/\l.parts<=800000/\k.parts<=800000/\∀ (x:V) (H':Hp),SB [] H H'->LA K H' x (l.bth k)->Q x H'
def spManyOf (K:PySem.W.Frag):Sp:=fun vs H Q _=>∃ (v:V) (l:Lad) (m:Int),vs=[v,.int m]/\LA K H v l/\l.parts<=900000/\(∀ p ∈ l.ps,0<=p.2/\p.2 < 2 ^ 2000)/\0<=m/\m < 2 ^ 2000/\∀ (x:V) (H':Hp),SB [] H H'->LA K H' x (l.tms m)->Q x H'
namespace Lad
theorem sumAt_nil (x:Lad):sumAt [] x=0:=rfl
theorem sumAt_cons (e:Lad) (m:Int) (r:List (Lad × Int)) (x:Lad):sumAt ((e,m)::r) x=(if e=x then m else 0)+sumAt r x:=by
 unfold sumAt
 rw [List.filter_cons]
 by_cases h:e=x
 ·simp [h]
 ·simp [h]
theorem sumAt_append (as bs:List (Lad × Int)) (x:Lad):sumAt (as++bs) x=sumAt as x+sumAt bs x:=by
 unfold sumAt
 rw [List.filter_append,List.map_append,List.sum_append]
theorem sumAt_zero {bs:List (Lad × Int)} {x:Lad} (h:∀ p ∈ bs,p.1 ≠ x):sumAt bs x=0:=by
 unfold sumAt
 have:bs.filter (fun p=>decide (p.1=x))=[]:=by
  rw [List.filter_eq_nil_iff]
  intro p hp
  simpa using h p hp
 rw [this]; rfl
theorem sumAt_perm {as bs:List (Lad × Int)} (h:as.Perm bs) (x:Lad):sumAt as x=sumAt bs x:=by
 induction h with
 | nil=>rfl
 | cons p _ ih=>obtain ⟨e,m⟩:=p; rw [sumAt_cons,sumAt_cons,ih]
 | swap p q l=>obtain ⟨e,m⟩:=p; obtain ⟨e',m'⟩:=q; rw [sumAt_cons,sumAt_cons,sumAt_cons,sumAt_cons]; omega
 | trans _ _ h1 h2=>omega
theorem sumAt_jstep (acc:List (Lad × Int)) (p:Lad × Int) (x:Lad):sumAt (jstep acc p) x=sumAt acc x+(if p.1=x then p.2 else 0):=by
 obtain ⟨e,m⟩:=p
 rcases List.eq_nil_or_concat acc with h | ⟨a,z,h⟩
 ·subst h; rw [jstep_nil,sumAt_cons,sumAt_nil]; show (if e=x then m else 0)+0=0+(if e=x then m else 0); omega
 ·subst h
  obtain ⟨e',m'⟩:=z
  rw [List.concat_eq_append,jstep_snoc]
  by_cases hz:e'=e
  ·rw [if_pos hz,sumAt_append,sumAt_append,sumAt_cons,sumAt_cons,sumAt_nil]
   subst hz
   by_cases hx:e'=x
   ·simp only [if_pos hx]; omega
   ·simp only [if_neg hx]; omega
  ·rw [if_neg hz,sumAt_append,sumAt_append,sumAt_cons,sumAt_cons,sumAt_nil]; show _=_+(if e=x then m else 0); omega
theorem sumAt_jn (bs:List (Lad × Int)) (x:Lad):sumAt (jn bs) x=sumAt bs x:=by
 have key:∀ (bs acc:List (Lad × Int)),sumAt (bs.foldl jstep acc) x=sumAt acc x+sumAt bs x:=by
  intro bs
  induction bs with
  | nil=>intro acc; show sumAt acc x=_; rw [sumAt_nil]; omega
  | cons p r ih =>
   intro acc
   obtain ⟨e,m⟩:=p
   show sumAt (r.foldl jstep (jstep acc (e,m))) x=_
   rw [ih,sumAt_jstep,sumAt_cons]
   show _+(if e=x then m else 0)+_=_
   omega
 have:=key bs []
 rw [sumAt_nil] at this
 unfold jn
 omega
abbrev S (l:Lad) (x:Lad):Int:=sumAt l.ps x
section
variable {B C:Int}
theorem S_top {e:Lad} {m:Int} {r:Lad} (h:(Lad.cons e m r).Ok B):S (.cons e m r) e=m:=by
 show sumAt ((e,m)::r.ps) e=m
 rw [sumAt_cons,if_pos rfl,sumAt_zero fun p hp=>lt_ne (h.2.2.2.2 p hp)]
 omega
theorem S_above {e:Lad} {m:Int} {r x:Lad} (h:(Lad.cons e m r).Ok B) (hx:e.lt x=true):S (.cons e m r) x=0:=by
 show sumAt ((e,m)::r.ps) x=0
 rw [sumAt_cons,if_neg (lt_ne hx),sumAt_zero fun p hp=>lt_ne (lt_trans _ _ _ (h.2.2.2.2 p hp) hx)]
 rfl
theorem S_mem {l:Lad} (h:l.Ok B) {p:Lad × Int} (hp:p ∈ l.ps):S l p.1=p.2:=by
 induction l with
 | nil=>cases hp
 | cons e m r _ ih =>
  rcases List.mem_cons.mp hp with hp | hp
  ·subst hp; exact S_top h
  ·show sumAt ((e,m)::r.ps) p.1=p.2
   rw [sumAt_cons,if_neg (fun z=>lt_ne (h.2.2.2.2 p hp) z.symm)]
   have:=ih h.2.2.2.1 hp
   show 0+S r p.1=_
   omega
theorem S_none {l x:Lad} (h:∀ p ∈ l.ps,p.1 ≠ x):S l x=0:=sumAt_zero h
theorem S_cases {l:Lad} (h:l.Ok B) (x:Lad):(S l x=0/\∀ p ∈ l.ps,p.1 ≠ x)\/(∃ m,(x,m) ∈ l.ps/\S l x=m/\1<=m/\m < B):=by
 by_cases hx:∃ p ∈ l.ps,p.1=x
 ·obtain ⟨p,hp,rfl⟩:=hx
  have:=(ok_iff.mp h).1 p hp
  exact .inr ⟨p.2,hp,S_mem h hp,this.2⟩
 ·have hx':∀ p ∈ l.ps,p.1 ≠ x:=fun p hp z=>hx ⟨p,hp,z⟩
  exact .inl ⟨S_none hx',hx'⟩
theorem S_nonneg {l:Lad} (h:l.Ok B) (x:Lad):0<=S l x:=by
 rcases S_cases h x with h1 | ⟨m,_,h1,h2,_⟩ <;> omega
def LT' (l k:Lad):Prop:=∃ x,S l x < S k x/\∀ y,x.lt y=true->S l y=S k y
theorem lt_of {l k:Lad}:∀ (_:l.Ok B) (_:k.Ok C),l.lt k=true->LT' l k:=by
 induction l generalizing k with
 | nil =>
  intro hl hk h
  cases k with
  | nil=>rw [lt_nil_nil] at h; cases h
  | cons e m r =>
   refine ⟨e,?_,fun y hy=>?_⟩
   ·rw [S_top hk]; show sumAt [] e < m; rw [sumAt_nil]; have:=hk.2.1; omega
   ·rw [S_above hk hy]; rfl
 | cons e m r _ ih =>
  intro hl hk h
  cases k with
  | nil=>rw [lt_cons_nil] at h; cases h
  | cons e' m' r' =>
   rw [lt_cons] at h
   by_cases he:e=e'
   ·subst he
    rw [if_pos rfl] at h
    by_cases hm:m=m'
    ·subst hm
     rw [if_pos rfl] at h
     obtain ⟨x,h1,h2⟩:=ih hl.2.2.2.1 hk.2.2.2.1 h
     refine ⟨x,?_,fun y hy=>?_⟩
     ·show sumAt ((e,m)::r.ps) x < sumAt ((e,m)::r'.ps) x
      rw [sumAt_cons,sumAt_cons]
      have:sumAt r.ps x < sumAt r'.ps x:=h1
      omega
     ·show sumAt ((e,m)::r.ps) y=sumAt ((e,m)::r'.ps) y
      rw [sumAt_cons,sumAt_cons]
      have:sumAt r.ps y=sumAt r'.ps y:=h2 y hy
      omega
    ·rw [if_neg hm] at h
     exact ⟨e,by rw [S_top hl,S_top hk]; exact of_decide_eq_true h,fun y hy=>by rw [S_above hl hy,S_above hk hy]⟩
   ·rw [if_neg he] at h
    refine ⟨e',?_,fun y hy=>?_⟩
    ·rw [S_above hl h,S_top hk]; have:=hk.2.1; omega
    ·rw [S_above hl (lt_trans _ _ _ h hy),S_above hk hy]
theorem ext {l k:Lad} (hl:l.Ok B) (hk:k.Ok C) (h:∀ x,S l x=S k x):l=k:=by
 by_cases e:l=k
 ·exact e
 ·cases hlk:l.lt k with
  | true=>obtain ⟨x,h1,_⟩:=lt_of hl hk hlk; have:=h x; omega
  | false=>obtain ⟨x,h1,_⟩:=lt_of hk hl (lt_tri l k e hlk); have:=h x; omega
theorem jn_desc {bs:List (Lad × Int)} (h:bs.Pairwise (fun a b=>a.1.lt b.1=false)):(jn bs).Pairwise (fun p q=>q.1.lt p.1=true):=by
 have key:∀ (bs acc:List (Lad × Int)),acc.Pairwise (fun p q=>q.1.lt p.1=true)->(∀ a ∈ acc,∀ b ∈ bs,a.1.lt b.1=false)->bs.Pairwise (fun a b=>a.1.lt b.1=false)->(bs.foldl jstep acc).Pairwise (fun p q=>q.1.lt p.1=true):=by
  intro bs
  induction bs with
  | nil=>intro acc h _ _; exact h
  | cons p r ih =>
   intro acc h1 h2 h3
   obtain ⟨h31,h32⟩:=List.pairwise_cons.mp h3
   refine ih (jstep acc p) ?_ ?_ h32
   ·rcases List.eq_nil_or_concat acc with h | ⟨a,z,h⟩
    ·subst h; rw [jstep_nil]; exact List.pairwise_singleton _ _
    ·subst h
     rw [List.concat_eq_append] at h1 h2 ⊢
     rw [jstep_snoc]
     obtain ⟨a1,_,a3⟩:=List.pairwise_append.mp h1
     by_cases hz:z.1=p.1
     ·rw [if_pos hz,List.pairwise_append]
      refine ⟨a1,List.pairwise_singleton _ _,fun x hx y hy=>?_⟩
      have hy':y=(p.1,z.2+p.2):=by simpa using hy
      subst hy'
      show p.1.lt x.1=true
      rw [<- hz]; exact a3 x hx z (by simp)
     ·rw [if_neg hz,List.pairwise_append]
      refine ⟨h1,List.pairwise_singleton _ _,fun x hx y hy=>?_⟩
      have hy':y=p:=by simpa using hy
      subst hy'
      have hzp:y.1.lt z.1=true:=lt_tri _ _ hz (h2 z (by simp) y (mcs ..))
      rcases List.mem_append.mp hx with hx | hx
      ·exact lt_trans _ _ _ hzp (a3 x hx z (by simp))
      ·have hx':x=z:=by simpa using hx
       subst hx'; exact hzp
   ·intro a ha b hb
    have hpb:=h31 b hb
    rcases List.eq_nil_or_concat acc with h | ⟨c,z,h⟩
    ·subst h
     rw [jstep_nil] at ha
     have:a=p:=by simpa using ha
     subst this; exact hpb
    ·subst h
     rw [List.concat_eq_append] at ha h2
     rw [jstep_snoc] at ha
     by_cases hz:z.1=p.1
     ·rw [if_pos hz] at ha
      rcases List.mem_append.mp ha with ha | ha
      ·exact h2 a (mal _ ha) b (mcm _ hb)
      ·have:a=(p.1,z.2+p.2):=by simpa using ha
       subst this; exact hpb
     ·rw [if_neg hz] at ha
      rcases List.mem_append.mp ha with ha | ha
      ·exact h2 a ha b (mcm _ hb)
      ·have:a=p:=by simpa using ha
       subst this; exact hpb
 exact key bs [] List.Pairwise.nil (by simp) h
theorem dsc_keys (bs:List (Lad × Int)):(dsc bs).Pairwise (fun a b=>a.1.lt b.1=false):=by
 refine (dsc_le bs).imp fun {a b} hab=>?_
 rw [pLt] at hab
 by_cases h:a.1=b.1
 ·rw [h]; exact lt_irrefl _
 ·rw [if_neg h] at hab; exact hab
theorem S_bth (l k x:Lad):S (bth l k) x=S l x+S k x:=by
 show sumAt (ofPs (jn (dsc (l.ps++k.ps)))).ps x=_
 rw [ps_ofPs,sumAt_jn,sumAt_perm (dsc_perm _),sumAt_append]
theorem ok_pos {l:Lad} (h:l.Ok B) (hB:0<=B) (x:Lad):S l x<=B:=by
 rcases S_cases h x with h1 | ⟨m,_,h1,h2,h3⟩ <;> omega
theorem bth_ok {l k:Lad} (hl:l.Ok B) (hk:k.Ok C) (hB:1<=B) (hC:1<=C):(bth l k).Ok (B+C):=by
 have hd:(jn (dsc (l.ps++k.ps))).Pairwise (fun p q=>q.1.lt p.1=true):=jn_desc (dsc_keys _)
 show (ofPs (jn (dsc (l.ps++k.ps)))).Ok (B+C)
 rw [ok_ps]
 refine ⟨fun p hp=>?_,hd⟩
 have hs:sumAt (jn (dsc (l.ps++k.ps))) p.1=p.2:=by
  have hnd:∀ (bs:List (Lad × Int)),bs.Pairwise (fun p q=>q.1.lt p.1=true)->∀ p ∈ bs,sumAt bs p.1=p.2:=by
   intro bs
   induction bs with
   | nil=>intro _ p hp; cases hp
   | cons q r ih =>
    intro hpw p hp
    obtain ⟨e,m⟩:=q
    obtain ⟨h1,h2⟩:=List.pairwise_cons.mp hpw
    rw [sumAt_cons]
    rcases List.mem_cons.mp hp with hp | hp
    ·subst hp
     rw [if_pos rfl,sumAt_zero fun q hq=>lt_ne (h1 q hq)]
     omega
    ·rw [if_neg (fun z=>lt_ne (h1 p hp) z.symm),ih h2 p hp]
     omega
  exact hnd _ hd p hp
 have hs2:p.2=S l p.1+S k p.1:=by
  rw [<- hs,sumAt_jn,sumAt_perm (dsc_perm _),sumAt_append]
 obtain ⟨q,hq,eq⟩:=jn_keys _ p hp
 have hq':=(dsc_perm _).mem_iff.mp hq
 have n1:=S_nonneg hl p.1
 have n2:=S_nonneg hk p.1
 have hlt:S l p.1 < B:=by rcases S_cases hl p.1 with h1 | ⟨m,_,h1,h2,h3⟩ <;> omega
 have hkt:S k p.1 < C:=by rcases S_cases hk p.1 with h1 | ⟨m,_,h1,h2,h3⟩ <;> omega
 have grow:∀ (e:Lad),e.Ok B->e.Ok (B+C):=fun e h=>h.mono (by omega)
 have grow2:∀ (e:Lad),e.Ok C->e.Ok (B+C):=fun e h=>h.mono (by omega)
 rcases List.mem_append.mp hq' with hq2 | hq2
 ·have o:=(ok_iff.mp hl).1 q hq2
  have sm:=S_mem hl hq2
  rw [eq] at sm o
  exact ⟨grow _ o.1,by omega,by omega⟩
 ·have o:=(ok_iff.mp hk).1 q hq2
  have sm:=S_mem hk hq2
  rw [eq] at sm o
  exact ⟨grow2 _ o.1,by omega,by omega⟩
theorem bhd_ok {l k:Lad} (hl:l.Ok B) (hk:k.Ok C) (hB:1<=B) (hC:1<=C):(bhd l k).Ok (B+C):=by
 cases k with
 | nil=>rw [bhd_nil]; exact hl.mono (by omega)
 | cons e m r =>
  rw [bhd_cons,ok_ps]
  obtain ⟨h1,h2,h3,h4,h5⟩:=hk
  obtain ⟨a1,a2⟩:=ok_iff.mp hl
  obtain ⟨b1,b2⟩:=ok_iff.mp h4
  have n1:=S_nonneg hl e
  have hlt:S l e < B:=by rcases S_cases hl e with g1 | ⟨m,_,g1,g2,g3⟩ <;> omega
  constructor
  ·intro p hp
   rcases List.mem_append.mp hp with hp | hp
   ·have:=a1 p (List.mem_filter.mp hp).1
    exact ⟨this.1.mono (by omega),this.2.1,by omega⟩
   ·rcases List.mem_cons.mp hp with hp | hp
    ·subst hp
     exact ⟨h1.mono (by omega),by show 1<=S l e+m; omega,by show S l e+m < B+C; omega⟩
    ·have:=b1 p hp
     exact ⟨this.1.mono (by omega),this.2.1,by omega⟩
  ·rw [List.pairwise_append,List.pairwise_cons]
   refine ⟨a2.sublist List.filter_sublist,⟨h5,b2⟩,fun a ha b hb=>?_⟩
   have ha':=(List.mem_filter.mp ha).2
   rcases List.mem_cons.mp hb with hb | hb
   ·subst hb; exact ha'
   ·exact lt_trans _ _ _ (h5 b hb) ha'
theorem tms_ok {l:Lad} {m:Int} (hl:l.Ok B) (hm:0<=m):(tms l m).Ok (B*m+B):=by
 unfold tms
 by_cases h:m=0
 ·rw [if_pos h]; trivial
 ·rw [if_neg h,ok_ps]
  obtain ⟨a1,a2⟩:=ok_iff.mp hl
  constructor
  ·intro p hp
   obtain ⟨q,hq,rfl⟩:=List.mem_map.mp hp
   obtain ⟨g1,g2,g3⟩:=a1 q hq
   have hB:0<=B:=by omega
   have b1:q.2*m<=B*m:=Int.mul_le_mul_of_nonneg_right (by omega) hm
   have b2:1*1<=q.2*m:=Int.mul_le_mul g2 (by omega) (by omega) (by omega)
   have b3:0<=B*m:=Int.mul_nonneg hB hm
   exact ⟨g1.mono (by omega),by show 1<=q.2*m; omega,by show q.2*m < B*m+B; omega⟩
  ·rw [List.pairwise_map]
   exact a2
end
end Lad
namespace Lad
section
variable {B C:Int}
theorem eqv_pEnc (p q:Lad × Int):PyData.eqv (pEnc p) (pEnc q)=(decide (p.1=q.1)&&decide (p.2=q.2)):=by
 simp [pEnc,PyData.eqv,PyData.eqvAll,Lad.eqv_enc,ib]
theorem shaped_pEnc {p:Lad × Int} (h:p.1.deep<=29):SeqAt.shaped (pEnc p)=true:=by
 have h1:=pEnc_depth p
 have h2:=shaped_enc (l:=p.1) (by omega)
 unfold SeqAt.shaped at h2 ⊢
 rw [Bool.and_eq_true] at h2 ⊢
 refine ⟨?_,by simp; omega⟩
 simp [pEnc,PyData.canLay0,PyData.canLayAll0,h2.1]
end
end Lad
structure Own (K:PySem.W.Frag) (mg:Str->Option Value) (x:Str) (C:Addr):Prop where
 gC:mg x=some (.ref C)
 q:PySem.W.excIn K C He.veBase "ValueError.__new__"=true
 k:PySem.W.keepIn K (.ref C)=true
 s:PySem.W.subIn K (.ref C) (.type "BaseException")=some true
 t:PySem.W.typeIn K (.ref C)=some (.type "type")
structure GotX (P:Program) (w:World) (K:PySem.W.Frag) (mg:Str->Option Value) (base:Heap) (x:Str) (ps:List Str) (k:Nat) (sp:Sp):Prop where
 ex:∃ (f:Addr) (fd:FuncData),FnOk P w K mg base (L2.CX P w) k f fd ps sp/\PySem.W.keepIn K (.ref f)=true/\Binds K fd ps []/\mg x=some (.ref f)
section
variable {X:Cx} {x:Str} {ps:List Str} {k:Nat} {sp:Sp} {e:Expr} {es:List Expr} {t:TA} {p pos:Pos}
theorem pe_gotX (G:GotX X.prog X.w X.K X.mg X.base x ps k sp) (hr:Room k X.A) (hg:Gl X x) (ha:PA X (e::es) t) (hdb:(x == ("__debug__":Str))=false:=by decide) (he:starEach (e::es) X.env=(false,eval e X.env)::starEach es X.env:=by rfl) (hpl:(backTo pos (starEach es X.env)).any (·.1)=false:=by rfl) :
  PE X (.Call (.Name x p) (e::es) [] pos) (tCall sp [] E0 t):=by
 obtain ⟨f,fd,h1,h2,h3,h4⟩:=G.ex
 exact pe_call h1 hr hg h4 h2 h3 .nil passL ha hdb he hpl
theorem pe_gotS {W:WX} (G:GotX X.prog X.w X.K X.mg X.base x ps k sp) (hr:Room k X.A) (hg:Gl X x) (tk:Takes X W) (ha:PA X (e::es) t) (hdb:(x == ("__debug__":Str))=false:=by decide) (he:starEach (e::es) X.env=(false,eval e X.env)::starEach es X.env:=by rfl) (hpl:(backTo pos (starEach es X.env)).any (·.1)=false:=by rfl) :
  PE X (.Call (.Name x p) (e::es) [] pos) (tCallS sp (WE W) t):=by
 obtain ⟨f,fd,h1,h2,h3,h4⟩:=G.ex
 exact pe_callS h1 hr hg h4 h2 h3 (fun σ=>passAt tk σ) ha hdb he hpl
end
abbrev AlE:Type:=He.AlD × Bool
def obsE (n:Nat) (fa:List He.Fa) (fn:List He.DefD) (ex:PySem.W.Frag->Bool) (g:Addr->Option Obj):AlE:=(He.obsD fa fn (He.frG g (He.asD g n)),ex (He.frG g (He.asD g n)))
def hookE (n:Nat) (fa:List He.Fa) (fn:List He.DefD) (ex:PySem.W.Frag->Bool):PySem.W.Hook where
 α:=AlE
 obs:=fun s=>obsE n fa fn ex s.heap.get?
 val:=fun _=>(He.valD fn,true)
 says:=fun _ h=>∃ K:PySem.W.Frag,K.In h/\He.SaysD fa fn K/\ex K=true
 of:=fun _ _ e=>⟨_,He.frG_in,congrArg (fun z:AlE=>z.1) e,congrArg (fun z:AlE=>z.2) e⟩
 keeps:=fun _ _ _ ⟨K,hK,c⟩ k=>⟨K,PySem.W.Frag.In.keeps hK k,c⟩
theorem obsE_eq {n:Nat} {fa:List He.Fa} {fn:List He.DefD} {ex:PySem.W.Frag->Bool} {g:Addr->Option Obj} {s:Shared} (h:∀ a,g a=s.heap.get? a):obsE n fa fn ex g=(hookE n fa fn ex).obs s:=by
 have e:g=s.heap.get?:=funext h
 rw [e] <;> rfl
def excCB (K:PySem.W.Frag) (D:Addr):Bool :=
 He.eqO (PySem.W.findIn K (.ref D) "__getattribute__") (some (some (.builtin "BaseException.__getattribute__")))&&(He.eqO (PySem.W.findIn K (.ref D) "__getattr__") (some none)&&(decide (PySem.W.subIn K (.ref D) (.type "BaseException")=some true)&&(PySem.W.hasDictIn K D&&(He.eqO (PySem.W.findIn K (.ref D) "__class__") (some (some (.builtin "object.__class__"))) &&
 (He.eqO (PySem.W.specialIn K (.builtin "object.__class__") "__get__") (some (some (.builtin "getset_descriptor.__get__")))&&(decide (PySem.W.takesIn K (.builtin "object.__class__")=some true)&&decide (PySem.W.mroIn K D (.type "object")=some true)))))))
theorem excCB_ok {K:PySem.W.Frag} {D:Addr} (h:excCB K D=true):ExcC K D:=by
 obtain ⟨h1,h⟩:=He.ba h
 obtain ⟨h2,h⟩:=He.ba h
 obtain ⟨h3,h⟩:=He.ba h
 obtain ⟨h4,h⟩:=He.ba h
 obtain ⟨h5,h⟩:=He.ba h
 obtain ⟨h6,h⟩:=He.ba h
 obtain ⟨h7,h8⟩:=He.ba h
 exact ⟨He.eqO_ok h1,He.eqO_ok h2,of_decide_eq_true h3,h4,He.eqO_ok h5,He.eqO_ok h6,of_decide_eq_true h7,of_decide_eq_true h8⟩
section
variable {J:It} {n:Nat} {G:Hp->Prop} {Y:Nat->Hp->V->Hp->Prop}
theorem lcG (w:Walk J n G Y) {H0:Hp} {Qd:Hp->Prop} {body:(Hp->Prop)->V->Hp->Prop} (Pv:Nat->Hp->Prop) (h0:Pv 0 H0) (hG:∀ i H,i<=n->Pv i H->G H)
  (hs:∀ i x H H',i < n->Pv i H->Y i H x H'->body (Pv (i+1)) x H') (hd:∀ H,Pv n H->Qd H) :
  ∃ W:Nat->Nat->Hp->Prop,(∃ m,W 0 m H0)/\∀ i m H,W i m H ->
   (J.stop i H/\Qd H)\/(J.go i H/\∃ Nx:Hp->Prop,(∀ H',Nx H'->∃ m',m' < m/\W (i+1) m' H')/\∀ x H',J.yld i H x H'->body Nx x H'):=by
 refine ⟨fun i m H=>m=n-i/\i<=n/\Pv i H,⟨n,by simp,Nat.zero_le _,h0⟩,?_⟩
 rintro i m H ⟨rfl,hi,p⟩
 have q:=hG i H hi p
 by_cases hlt:i < n
 ·exact .inr ⟨w.goes i H hlt q,Pv (i+1),fun H' p'=>⟨n-(i+1),by omega,rfl,hlt,p'⟩,fun x H' y=>hs i x H H' hlt p (w.yields i H x H' hlt q y)⟩
 ·have e:i=n:=by omega
  subst e
  exact .inl ⟨w.stops H q,hd H p⟩
end
section
variable {prog:Program} {w:World} {A:Around} {E:Value->Shared->Prop} {s:Shared} {β:Type} {vs:List Value} {bs:List β} {enc:β->PyData} {R:Value->β->Prop}
theorem sorted_lstK {t:Addr} {kw:List (Str × Value)} {b:Bool} {Q:Value->Shared->Prop} (hkw:∀ a,Builtin.«list.sort» ⟨[.ref a],kw⟩=Builtin.«list.sort» ⟨[.ref a],[(Str.ofString "reverse",.bool b)]⟩) (ha1:argsOk "sorted" ⟨[.ref t],kw⟩) (ha2:∀ x,argsOk "list.sort" ⟨[.ref x],kw⟩)
  (ht:PlainL s.heap t vs.toArray) (e:EachIs R vs bs) (er:EachIs (fun v b=>∃ as,Reads s.heap v (enc b) as) vs bs) (hal:AllAlike (bs.map enc)) (hk:Sortable (bs.map enc)) (hL:bs.length<=sizeLine)
  (hu:∀ b,b ∈ bs->A.units+2+(enc b).depth < cLine)
  (h:∀ (out:List Value) (h' h2:Heap) (n:Nat),(∀ b o,s.heap.get? b=some o->h'.get? b=some o)->(∀ b o,h'.get? b=some o->h2.get? b=some o)->h2.get? h'.objs.size=some (seqObj "list" out.toArray n)->out.length=bs.length->EachIs R out (bs.mergeSort (dataLe b enc))->Q (.ref h'.objs.size) { s with heap:=h2 }) :
  wpAny (model prog w) A (call (.builtin "sorted") [.ref t] kw) Q E s:=by
 have hlen:vs.length<=sizeLine:=by rw [e.length]; exact hL
 obtain ⟨o,n0,ho,hc,_,hd⟩:=id ht
 refine call_function_entry_kw kind_sorted plain_sorted entry_sorted ha1 ?_
 unfold Builtin.«sorted»
 refine wpAny_bind (m:=checkCount "sorted" 1 1 _) (wpAny_pure ?_)
 refine wpAny_bind (wpAny_collect_seq t (.inl rfl) ho hc hd (fun h' hk'=>?_) (by rw [List.size_toArray]; exact hlen))
 refine wpAny_bind (wpAny_newList ?_ hlen)
 show wpAny _ _ _ _ _ { s with heap:=h'.push (seqObj "list" vs.toArray 0) }
 have hat:(h'.push (seqObj "list" vs.toArray 0)).get? h'.objs.size=some (seqObj "list" vs.toArray 0):=Heap.get?_push_size _ rfl
 refine wpAny_bind (wpAny_holding (wpAny_call_entry_kw slot_list_sort ⟨_,hat,rfl⟩ entry_list_sort ?body (ha2 _)))
 case body =>
  rw [hkw]
  have old:∀ b o,h'.get? b=some o->(sortingHeap (h'.push (seqObj "list" vs.toArray 0)) h'.objs.size vs).get? b=some o:=fun b o q=>sortingHeap_old (Nat.ne_of_lt (Heap.lt_size q)) (Heap.get?_push_of_some _ q)
  have er':EachIs (fun v b=>∃ as,Reads (sortingHeap (h'.push (seqObj "list" vs.toArray 0)) h'.objs.size vs) v (enc b) as) vs bs:=er.mono fun _ _ ⟨as,r⟩=>⟨as,PyProof.Rows.Reads.keeps (fun b o q=>old b o (hk' b o q)) r⟩
  refine list_sort_rev_vals (s:={ s with heap:=h'.push (seqObj "list" vs.toArray 0) }) (κ:=dataKind (sortingHeap (h'.push (seqObj "list" vs.toArray 0)) h'.objs.size vs) (bs.map enc)) hat (SortsAt.data (s:={ s with heap:=sortingHeap (h'.push (seqObj "list" vs.toArray 0)) h'.objs.size vs }) (each_map (R:=fun v d=>∃ as,Reads (sortingHeap (h'.push (seqObj "list" vs.toArray 0)) h'.objs.size vs) v d as) enc er') hal hk (bound_map hu)) hlen ?_
  refine ⟨_,rfl,wpAny_pure ⟨_,rfl,?_⟩⟩
  obtain ⟨n2,hn2⟩:=sortedHeap_at (out:=(sortVals (dataKind (sortingHeap (h'.push (seqObj "list" vs.toArray 0)) h'.objs.size vs) (bs.map enc)) b vs vs).toArray) hat
  refine h _ h' _ n2 hk' (fun b o q=>?_) hn2 (by rw [sortVals_length b rfl]; exact e.length) (sortVals_data b e er' hal)
  rw [sortedHeap_old (Nat.ne_of_lt (Heap.lt_size q)) (by rw [size_push']; exact Nat.lt_succ_of_lt (Heap.lt_size q))]
  exact Heap.get?_push_of_some _ q
end
def rSortedL (K:PySem.W.Frag) {β:Type} (enc:β->PyData) (b:Bool) (vs:List V) (H:Hp) (Q:VK):Prop:=∃ (a:Addr) (xs:List V) (bs:List β),vs=[V.ref a]/\SqL K H a xs/\Bears K H enc xs bs/\AllAlike (bs.map enc)/\Sortable (bs.map enc)/\bs.length<=10000000/\(∀ b ∈ bs,(enc b).depth<=100) /\
 ∀ (p:Addr) (ys:List V),H p=none->Bears K H enc ys (bs.mergeSort (dataLe b enc))->Q (.ref p) (upd H p (.lst ys))
section
variable {X:Cx}
theorem sortedL_run {β:Type} {enc:β->PyData} {b:Bool} {kw:List (Str × Value)} (hu:X.A.units+110 < cLine) (hkw:∀ a,Builtin.«list.sort» ⟨[.ref a],kw⟩=Builtin.«list.sort» ⟨[.ref a],[(Str.ofString "reverse",.bool b)]⟩) (ha1:∀ t,argsOk "sorted" ⟨[.ref t],kw⟩) (ha2:∀ x,argsOk "list.sort" ⟨[.ref x],kw⟩)
  {pins:List (Addr × Obj)} {s:Shared} {σ:L2.St} {H:Hp} {vs:List V} {us:List Value} {Q:VK} (I:Inv X pins σ H s) (r:Vals vs us) (h:rSortedL X.K enc b vs H Q):wpAny (model X.prog X.w) X.A (call (.builtin "sorted") us kw) (EP X pins σ Q) X.xe s:=by
 obtain ⟨a,xs,bs,rfl,hs,hb,hal,hsr,hl,hd,q⟩:=h
 obtain ⟨its,rv,hli,_⟩:=I.list hs
 rw [Vals.ref1 r]
 obtain ⟨e1,e2⟩:=each_of I hb rv
 refine sorted_lstK (vs:=its) (bs:=bs) (enc:=enc) (R:=fun u b=>∃ v,RelV v u/\Dp X.K H v (enc b)) hkw (ha1 _) ha2 hli e1 e2 hal hsr (by rw [sizeLine_eq]; omega) (fun b m=>by have:=hd b m; omega) fun out h' h2 n k1 k2 hat ho h1=>?_
 obtain ⟨ys,g2,g3⟩:=of_each h1
 have I':Inv X pins σ H { s with heap:=h' }:=I.kept (t':=s.toks) k1
 have hlen:ys.length<=sizeLine:=by rw [g2.length,ho,sizeLine_eq]; omega
 exact ⟨.ref _,upd H h'.objs.size (.lst ys),I'.laid (t':=s.toks) (fun b o e=>k2 b o e) (Nat.le_refl _) ⟨hlen,out,n,g2,hat⟩,rfl,q _ ys (I'.hok.fresh (Nat.le_refl _)) g3⟩
theorem cr_sortedL {β:Type} (enc:β->PyData) (hu:X.A.units+110 < cLine):CallR X (.builtin "sorted") (rSortedL X.K enc false):=by
 intro pins s σ H vs us Q I r h
 exact sortedL_run (kw:=[]) hu plain_is_rev (fun _=>args_sorted1 _) (fun _=>args_list_sort _) I r h
theorem cr_sortedLR {β:Type} (enc:β->PyData) {b:Bool} (hu:X.A.units+110 < cLine):CallRK X (.builtin "sorted") [Str.ofString "reverse"] (fun vs zs H Q=>zs=[.bl b]/\rSortedL X.K enc b vs H Q):=by
 intro pins s σ H vs zs us ws Q I r rz h
 obtain ⟨rfl,h⟩:=h
 obtain ⟨w1,rfl,e1⟩:=vals1 rz
 obtain rfl:w1=Value.bool b:=e1
 exact sortedL_run hu (fun _=>rfl) (fun _=>args_sorted_rev _ _) (fun _=>args_list_sort_rev _ _) I r h
end
namespace Lad
def bths (ls:List Lad):Lad:=ofPs (jn (dsc (ls.flatMap ps)))
theorem bths_two (l k:Lad):bths [l,k]=bth l k:=by simp [bths,bth,List.flatMap]
end Lad
def spPower (K:PySem.W.Frag):Sp:=fun vs H Q _=>∃ (v:V) (l:Lad),vs=[v]/\LA K H v l/\∀ (x:V) (H':Hp),SB [] H H'->LA K H' x (.cons l 1 .nil)->Q x H'
def spAllT (K:PySem.W.Frag):Sp:=fun vs H Q _=>∃ (a:Addr) (xs:List V) (ls:List Lad),vs=[.ref a]/\SqL K H a xs/\Bears K H Lad.enc xs ls/\(∀ l ∈ ls,l.deep<=30)/\(ls.flatMap Lad.ps).length<=1900000/\∀ (x:V) (H':Hp),SB [] H H'->LA K H' x (Lad.bths ls)->Q x H'
namespace Lad
section
variable {B C D:Int}
abbrev uno:Lad:=.cons .nil 1 .nil
theorem num_one:Lad.num 1=uno:=if_neg (by decide)
theorem uno_ok:uno.Ok 2:=⟨trivial,by decide,by decide,trivial,by simp [ps]⟩
theorem filter_ok {l:Lad} (h:l.Ok B) (g:Lad × Int->Bool):(ofPs (l.ps.filter g)).Ok B:=by
 have:=ok_iff.mp h
 rw [ok_ps]
 exact ⟨fun p hp=>this.1 p (List.mem_filter.mp hp).1,this.2.filter _⟩
theorem filter_parts (l:Lad) (g:Lad × Int->Bool):(ofPs (l.ps.filter g)).parts<=l.parts:=by
 have h:=tot_filter g l.ps
 rw [parts_ofPs]
 have h2:tot l.ps=l.parts:=by rw [<- parts_ofPs,ofPs_ps]
 omega
theorem filter_deep {n:Nat} {l:Lad} (g:Lad × Int->Bool) (h:l.deep<=n):(ofPs (l.ps.filter g)).deep<=n :=
 deep_ofPs fun b hb=>Nat.lt_of_lt_of_le (mem_deep l b (List.mem_filter.mp hb).1) h
def abv (l:Lad):Lad->Lad
 | .nil=>bth l uno
 | .cons e _ _=>bth (ofPs (l.ps.filter fun p=>e.lt p.1)) (.cons (bhd e uno) 1 .nil)
theorem pow_ok {e:Lad} (h:e.Ok B) (hB:2<=B):(Lad.cons e 1 .nil).Ok B:=⟨h,by decide,by omega,trivial,by simp [ps]⟩
theorem abv_ok {l k:Lad} (hl:l.Ok B) (hk:k.Ok C) (hB:1<=B) (hC:1<=C):(abv l k).Ok (B+(C+2)):=by
 cases k with
 | nil=>exact (bth_ok hl uno_ok hB (by decide)).mono (by omega)
 | cons e m r=>exact bth_ok (filter_ok hl _) (pow_ok (bhd_ok hk.1 uno_ok hC (by decide)) (by omega)) hB (by omega)
theorem abv_parts (l k:Lad):(abv l k).parts<=l.parts+k.parts+2:=by
 cases k with
 | nil=>have:=bth_parts l uno; show (bth l uno).parts<=_; have h1:uno.parts=1:=rfl; omega
 | cons e m r =>
  have h1:=bth_parts (ofPs (l.ps.filter fun p=>e.lt p.1)) (.cons (bhd e uno) 1 .nil)
  have h2:=filter_parts l fun p=>e.lt p.1
  have h3:=bhd_parts e uno
  have h4:(Lad.cons (bhd e uno) 1 .nil).parts=1+(bhd e uno).parts+0:=rfl
  have h5:(Lad.cons e m r).parts=1+e.parts+r.parts:=rfl
  have h6:uno.parts=1:=rfl
  show (bth _ _).parts<=_
  omega
theorem abv_deep {n:Nat} {l k:Lad} (hl:l.deep<=n) (hk:k.deep<=n) (hn:2<=n):(abv l k).deep<=n:=by
 cases k with
 | nil=>exact bth_deep hl (by show 1<=n; omega)
 | cons e m r =>
  refine bth_deep (filter_deep _ hl) ?_
  have h1:1+e.deep<=n:=Nat.le_trans (Nat.le_max_left _ _) hk
  have h2:=bhd_deep (n:=n-1) (l:=e) (k:=uno) (by omega) (by show 1<=n-1; omega)
  show max (1+(bhd e uno).deep) 0<=n
  omega
def spd:Lad->Lad->Lad
 | .cons e m r,.nil=>.cons e m r
 | .nil,.nil=>.nil
 | .nil,k=>k
 | .cons e _ _,k=>.cons (bhd e k) 1 .nil
end
end Lad
def spSpread (K:PySem.W.Frag):Sp:=fun vs H Q _=>∃ (v u:V) (e:Lad) (m:Int) (r k:Lad),vs=[v,u]/\LA K H v (.cons e m r)/\LA K H u k/\(Lad.cons e m r).deep<=30/\k.deep<=30/\(Lad.cons e m r).parts<=900000/\k.parts<=900000/\∀ (x:V) (H':Hp),SB [] H H'->LA K H' x (Lad.spd (.cons e m r) k)->Q x H'
def spAbove (K:PySem.W.Frag):Sp:=fun vs H Q _=>∃ (v u:V) (l k:Lad),vs=[v,u]/\LA K H v l/\LA K H u k/\l.deep<=29/\k.deep<=29/\l.parts<=390000/\k.parts<=390000/\∀ (x:V) (H':Hp),SB [] H H'->LA K H' x (l.abv k)->Q x H'
theorem dl_irrefl (x:PyData):dataLt x x=false:=lex_irrefl (O:=itemOrd) _
theorem dl_trans {x y z:PyData} (h:dataLt x y=true) (h2:dataLt y z=true):dataLt x z=true:=lex_trans (O:=itemOrd) _ _ _ h h2
theorem dl_total {x y:PyData} (al:alike x y=true) (h:dataLt x y=false) (h2:dataLt y x=false):PyData.eqv x y=true:=by
 have e:keyToks x=keyToks y:=lex_total (O:=itemOrd) _ _ h h2
 cases hq:PyData.eqv x y with
 | true=>rfl
 | false =>
  have t:=(toks_eqv x y al).2 hq [.inl 0] [.inl 1]
  rw [e] at t
  have t2:PyProof.Rows.lexLt itemOrd (keyToks y++[.inl 0]) (keyToks y++[.inl 1])=PyProof.Rows.lexLt itemOrd [.inl 0] [.inl 1]:=lex_pre _ _ _
  have t3:PyProof.Rows.lexLt itemOrd (keyToks y) (keyToks y)=false:=lex_irrefl (O:=itemOrd) _
  rw [t2,t3,lex_one] at t
  revert t
  decide
theorem dl_asymm {x y:PyData} (h:dataLt x y=true):dataLt y x=false:=by
 cases e:dataLt y x with
 | false=>rfl
 | true=>have:=dl_trans h e; rw [dl_irrefl] at this; cases this
class Orderly {γ:Type} [DecidableEq γ] (enc:γ->PyData):Prop where
 al:∀ a b,alike (enc a) (enc b)=true
 eq:∀ a b,PyData.eqv (enc a) (enc b)=decide (a=b)
section
variable {γ:Type} [DecidableEq γ] {enc:γ->PyData} [O:Orderly enc]
theorem ol_tri {a b:γ} (hne:a ≠ b) (h:dataLt (enc a) (enc b)=false):dataLt (enc b) (enc a)=true:=by
 cases e:dataLt (enc b) (enc a) with
 | true=>rfl
 | false =>
  have:=dl_total (O.al a b) h e
  rw [O.eq] at this
  exact absurd (of_decide_eq_true this) hne
instance:Orderly (pairE enc) where
 al a b:=by simp [pairE,alike,alikeAll,O.al a.1 b.1]
 eq a b:=by
  simp only [pairE,PyData.eqv,PyData.eqvAll,O.eq,Bool.and_true,ib]
  by_cases h:a=b
  ·subst h; simp
  ·rw [decide_eq_false h]
   rw [Bool.and_eq_false_iff]
   by_cases h1:a.1=b.1
   ·exact .inr (decide_eq_false fun h2=>h (Prod.ext h1 h2))
   ·exact .inl (decide_eq_false h1)
theorem pairE_lt (p q:γ × Int):dataLt (pairE enc p) (pairE enc q)=if p.1=q.1 then decide (p.2 < q.2) else dataLt (enc p.1) (enc q.1):=by
 unfold pairE
 rw [dataLt_pair (O.al p.1 q.1) (by simp [alike]),O.eq]
 by_cases h:p.1=q.1
 ·rw [if_pos (by simp [h]),if_pos h,dataLt_int]
  by_cases h2:p.2=q.2
  ·simp [PyData.eqv,h2]
  ·simp [PyData.eqv,h2]
 ·rw [if_neg (by simp [h]),if_neg h]
def srtE (enc:γ->PyData) (bs:List γ):List γ:=bs.mergeSort (dataLe false enc)
theorem srtE_perm (bs:List γ):(srtE enc bs).Perm bs:=List.mergeSort_perm _ _
theorem srtE_le (bs:List γ):(srtE enc bs).Pairwise (fun a b=>dataLt (enc b) (enc a)=false):=by
 have h:=List.pairwise_mergeSort (le:=dataLe false enc) (fun a b c h1 h2=>?_) (fun a b=>?_) bs
 ·refine h.imp fun {a b} hab=>?_
  rw [dataLe_eq] at hab
  simpa using hab
 ·rw [dataLe_eq] at h1 h2 ⊢
  simp only [cond_false,Bool.not_eq_true'] at h1 h2 ⊢
  by_cases hab:a=b
  ·subst hab; exact h2
  ·by_cases hbc:b=c
   ·subst hbc; exact h1
   ·exact dl_asymm (dl_trans (ol_tri (fun z=>hab z.symm) h1) (ol_tri (fun z=>hbc z.symm) h2))
 ·rw [dataLe_eq]
  simp only [cond_false]
  cases e:dataLt (enc b) (enc a) with
  | false=>rfl
  | true=>rw [dl_asymm e]; rfl
def sumE (ps:List (γ × Int)) (x:γ):Int:=match ps with
 | []=>0
 | p::r=>(if p.1=x then p.2 else 0)+sumE r x
theorem sumE_append (x:γ):∀ (as bs:List (γ × Int)),sumE (as++bs) x=sumE as x+sumE bs x
 | [],bs=>by simp [sumE]
 | p::r,bs=>by show _+sumE (r++bs) x=_; rw [sumE_append x r bs,sumE]; omega
theorem sumE_perm {as bs:List (γ × Int)} (h:as.Perm bs) (x:γ):sumE as x=sumE bs x:=by
 induction h with
 | nil=>rfl
 | cons y _ ih=>simp only [sumE]; omega
 | swap y z l=>simp only [sumE]; omega
 | trans _ _ h1 h2=>omega
theorem sumE_jstep (acc:List (γ × Int)) (p:γ × Int) (x:γ):sumE (jstep acc p) x=sumE acc x+(if p.1=x then p.2 else 0):=by
 rcases List.eq_nil_or_concat acc with h | ⟨a,z,h⟩
 ·subst h; rw [jstep_nil]; simp [sumE]
 ·subst h
  rw [List.concat_eq_append,jstep_snoc]
  by_cases hz:z.1=p.1
  ·rw [if_pos hz,sumE_append,sumE_append]
   simp only [sumE,hz]
   by_cases hx:p.1=x
   ·simp only [if_pos hx]; omega
   ·simp only [if_neg hx]; omega
  ·rw [if_neg hz,sumE_append]; simp only [sumE]; omega
theorem sumE_jn (bs:List (γ × Int)) (x:γ):sumE (jn bs) x=sumE bs x:=by
 have key:∀ (bs acc:List (γ × Int)),sumE (bs.foldl jstep acc) x=sumE acc x+sumE bs x:=by
  intro bs
  induction bs with
  | nil=>intro acc; simp [sumE]
  | cons p r ih =>
   intro acc
   show sumE (r.foldl jstep (jstep acc p)) x=_
   rw [ih,sumE_jstep,sumE]; omega
 have:=key bs []
 simpa [jn,sumE] using this
theorem jn_rise {bs:List (γ × Int)} (h:bs.Pairwise (fun a b=>dataLt (enc b.1) (enc a.1)=false)):(jn bs).Pairwise (fun p q=>dataLt (enc p.1) (enc q.1)=true):=by
 have key:∀ (bs acc:List (γ × Int)),acc.Pairwise (fun p q=>dataLt (enc p.1) (enc q.1)=true)->(∀ a ∈ acc,∀ b ∈ bs,dataLt (enc b.1) (enc a.1)=false)->bs.Pairwise (fun a b=>dataLt (enc b.1) (enc a.1)=false)->(bs.foldl jstep acc).Pairwise (fun p q=>dataLt (enc p.1) (enc q.1)=true):=by
  intro bs
  induction bs with
  | nil=>intro acc h _ _; exact h
  | cons p r ih =>
   intro acc h1 h2 h3
   obtain ⟨h31,h32⟩:=List.pairwise_cons.mp h3
   refine ih (jstep acc p) ?_ ?_ h32
   ·rcases List.eq_nil_or_concat acc with h | ⟨a,z,h⟩
    ·subst h; rw [jstep_nil]; exact List.pairwise_singleton _ _
    ·subst h
     rw [List.concat_eq_append] at h1 h2 ⊢
     rw [jstep_snoc]
     obtain ⟨a1,_,a3⟩:=List.pairwise_append.mp h1
     by_cases hz:z.1=p.1
     ·rw [if_pos hz,List.pairwise_append]
      refine ⟨a1,List.pairwise_singleton _ _,fun x hx y hy=>?_⟩
      have hy':y=(p.1,z.2+p.2):=by simpa using hy
      subst hy'
      show dataLt (enc x.1) (enc p.1)=true
      rw [<- hz]; exact a3 x hx z (by simp)
     ·rw [if_neg hz,List.pairwise_append]
      refine ⟨h1,List.pairwise_singleton _ _,fun x hx y hy=>?_⟩
      have hy':y=p:=by simpa using hy
      subst hy'
      have hzp:dataLt (enc z.1) (enc y.1)=true:=ol_tri (fun q=>hz q.symm) (h2 z (by simp) y (mcs ..))
      rcases List.mem_append.mp hx with hx | hx
      ·exact dl_trans (a3 x hx z (by simp)) hzp
      ·have hx':x=z:=by simpa using hx
       subst hx'; exact hzp
   ·intro a ha b hb
    have hpb:=h31 b hb
    rcases List.eq_nil_or_concat acc with h | ⟨c,z,h⟩
    ·subst h
     rw [jstep_nil] at ha
     have:a=p:=by simpa using ha
     subst this; exact hpb
    ·subst h
     rw [List.concat_eq_append] at ha h2
     rw [jstep_snoc] at ha
     by_cases hz:z.1=p.1
     ·rw [if_pos hz] at ha
      rcases List.mem_append.mp ha with ha | ha
      ·exact h2 a (mal _ ha) b (mcm _ hb)
      ·have:a=(p.1,z.2+p.2):=by simpa using ha
       subst this; exact hpb
     ·rw [if_neg hz] at ha
      rcases List.mem_append.mp ha with ha | ha
      ·exact h2 a ha b (mcm _ hb)
      ·have:a=p:=by simpa using ha
       subst this; exact hpb
 exact key bs [] List.Pairwise.nil (by simp) h
theorem srt_keys (bs:List (γ × Int)):(srtE (pairE enc) bs).Pairwise (fun a b=>dataLt (enc b.1) (enc a.1)=false):=by
 refine (srtE_le (enc:=pairE enc) bs).imp fun {a b} hab=>?_
 rw [pairE_lt] at hab
 by_cases h:b.1=a.1
 ·rw [h]; exact dl_irrefl _
 ·rw [if_neg h] at hab; exact hab
def tdy (enc:γ->PyData) (bs:List (γ × Int)):List (γ × Int):=jn (srtE (pairE enc) bs)
theorem tdy_rise (bs:List (γ × Int)):(tdy enc bs).Pairwise (fun p q=>dataLt (enc p.1) (enc q.1)=true):=jn_rise (srt_keys bs)
theorem tdy_sum (bs:List (γ × Int)) (x:γ):sumE (tdy enc bs) x=sumE bs x:=by
 unfold tdy
 rw [sumE_jn,sumE_perm (srtE_perm bs)]
theorem tdy_keys (bs:List (γ × Int)):∀ p ∈ tdy enc bs,∃ q ∈ bs,q.1=p.1:=fun p hp=>by
 obtain ⟨q,hq,e⟩:=jn_keys _ p hp
 exact ⟨q,(srtE_perm bs).mem_iff.mp hq,e⟩
def allE:List (γ × Int)->Int
 | []=>0
 | p::r=>p.2+allE r
theorem allE_append:∀ as bs:List (γ × Int),allE (as++bs)=allE as+allE bs
 | [],bs=>by simp [allE]
 | p::r,bs=>by show _+allE (r++bs)=_; rw [allE_append r bs,allE]; omega
theorem allE_perm {as bs:List (γ × Int)} (h:as.Perm bs):allE as=allE bs:=by
 induction h with
 | nil=>rfl
 | cons y _ ih=>simp only [allE]; omega
 | swap y z l=>simp only [allE]; omega
 | trans _ _ h1 h2=>omega
theorem jn_all (bs:List (γ × Int)):allE (jn bs)=allE bs:=by
 have key:∀ (bs acc:List (γ × Int)),allE (bs.foldl jstep acc)=allE acc+allE bs:=by
  intro bs
  induction bs with
  | nil=>intro acc; simp [allE]
  | cons p r ih =>
   intro acc
   show allE (r.foldl jstep (jstep acc p))=_
   rw [ih]
   have e:allE (jstep acc p)=allE acc+p.2:=by
    rcases List.eq_nil_or_concat acc with h | ⟨a,z,h⟩
    ·subst h; rw [jstep_nil]; simp [allE]
    ·subst h
     rw [List.concat_eq_append,jstep_snoc]
     split
     ·rw [allE_append,allE_append]; simp only [allE]; omega
     ·rw [allE_append]; simp only [allE]; omega
   rw [e,allE]; omega
 have:=key bs []
 simpa [jn,allE] using this
theorem jn_pos {bs:List (γ × Int)} (h:∀ p ∈ bs,1<=p.2):∀ p ∈ jn bs,1<=p.2:=by
 have key:∀ (bs acc:List (γ × Int)),(∀ p ∈ acc,1<=p.2)->(∀ p ∈ bs,1<=p.2)->∀ p ∈ bs.foldl jstep acc,1<=p.2:=by
  intro bs
  induction bs with
  | nil=>intro acc h _; exact h
  | cons p r ih =>
   intro acc h1 h2
   refine ih (jstep acc p) (fun q hq=>?_) fun q hq=>h2 q (mcm _ hq)
   have hp:=h2 p (mcs ..)
   rcases List.eq_nil_or_concat acc with h | ⟨a,z,h⟩
   ·subst h
    rw [jstep_nil] at hq
    have:q=p:=by simpa using hq
    subst this; exact hp
   ·subst h
    rw [List.concat_eq_append] at h1 hq
    rw [jstep_snoc] at hq
    have hz:=h1 z (by simp)
    by_cases e:z.1=p.1
    ·rw [if_pos e] at hq
     rcases List.mem_append.mp hq with hq | hq
     ·exact h1 q (mal _ hq)
     ·have:q=(p.1,z.2+p.2):=by simpa using hq
      subst this; show 1<=z.2+p.2; omega
    ·rw [if_neg e] at hq
     rcases List.mem_append.mp hq with hq | hq
     ·exact h1 q hq
     ·have:q=p:=by simpa using hq
      subst this; exact hp
 exact key bs [] (by simp) h
theorem le_all {bs:List (γ × Int)} (h:∀ p ∈ bs,1<=p.2):∀ p ∈ bs,p.2<=allE bs:=by
 induction bs with
 | nil=>intro p hp; cases hp
 | cons a r ih =>
  intro p hp
  have hr:0<=allE r:=by
   clear ih hp
   have:∀ p ∈ r,1<=p.2:=fun p hp=>h p (mcm _ hp)
   clear h
   induction r with
   | nil=>exact Int.le_refl _
   | cons b r ih2 =>
    have h1:=this b (mcs ..)
    have h2:=ih2 fun p hp=>this p (mcm _ hp)
    show 0<=b.2+allE r; omega
  have ha:=h a (mcs ..)
  rcases List.mem_cons.mp hp with hp | hp
  ·subst hp; show p.2<=p.2+allE r; omega
  ·have:=ih (fun p hp=>h p (mcm _ hp)) p hp
   show p.2<=a.2+allE r; omega
theorem tdy_pos {bs:List (γ × Int)} (h:∀ p ∈ bs,1<=p.2):∀ p ∈ tdy enc bs,1<=p.2/\p.2<=allE bs:=fun p hp=>by
 have h0:∀ p ∈ srtE (pairE enc) bs,1<=p.2:=fun p hp=>h p ((srtE_perm bs).mem_iff.mp hp)
 have h1:=jn_pos h0
 refine ⟨h1 p hp,?_⟩
 have h2:=le_all h1 p hp
 rw [jn_all,allE_perm (srtE_perm bs)] at h2
 exact h2
end
inductive Gr where
 | nil
 | cons (k:Str) (g:Gr) (m:Int) (r:Gr)
 deriving DecidableEq
abbrev Tr:=Str × Gr
def NameOk (k:Str):Prop:=1<=k.cps.toList.length/\k.cps.toList.length<=8/\∀ c ∈ k.cps.toList,97<=c/\c<=122
namespace Gr
def encs:Gr->List PyData
 | .nil=>[]
 | .cons k g m r=>.tuple [.tuple [.str k,.tuple g.encs],.int m]::r.encs
def enc (g:Gr):PyData:=.tuple g.encs
def tEnc (t:Tr):PyData:=.tuple [.str t.1,t.2.enc]
abbrev pEnc:Tr × Int->PyData:=pairE tEnc
def ps:Gr->List (Tr × Int)
 | .nil=>[]
 | .cons k g m r=>((k,g),m)::r.ps
def ofPs:List (Tr × Int)->Gr
 | []=>.nil
 | p::r=>.cons p.1.1 p.1.2 p.2 (ofPs r)
theorem ofPs_ps:∀ g:Gr,ofPs g.ps=g
 | .nil=>rfl
 | .cons k g m r=>by show Gr.cons k g m (ofPs r.ps)=_; rw [ofPs_ps r]
theorem ps_ofPs:∀ bs:List (Tr × Int),(ofPs bs).ps=bs
 | []=>rfl
 | p::r=>by show ((p.1.1,p.1.2),p.2)::(ofPs r).ps=_; rw [ps_ofPs r]
theorem encs_ps:∀ g:Gr,g.encs=g.ps.map pEnc
 | .nil=>rfl
 | .cons k g m r=>by show _::r.encs=_::r.ps.map pEnc; rw [encs_ps r]; rfl
def parts:Gr->Nat
 | .nil=>0
 | .cons _ g _ r=>1+g.parts+r.parts
def deep:Gr->Nat
 | .nil=>0
 | .cons _ g _ r=>max (1+g.deep) r.deep
def tot:List (Tr × Int)->Nat
 | []=>0
 | p::r=>1+p.1.2.parts+tot r
theorem parts_ofPs:∀ bs:List (Tr × Int),(ofPs bs).parts=tot bs
 | []=>rfl
 | p::r=>by show 1+p.1.2.parts+(ofPs r).parts=1+p.1.2.parts+tot r; rw [parts_ofPs r]
theorem tot_ps (g:Gr):tot g.ps=g.parts:=by rw [<- parts_ofPs,ofPs_ps]
theorem tot_append:∀ bs cs:List (Tr × Int),tot (bs++cs)=tot bs+tot cs
 | [],cs=>by simp [tot]
 | p::r,cs=>by show 1+p.1.2.parts+tot (r++cs)=_; rw [tot_append r cs,tot]; omega
theorem tot_perm {bs cs:List (Tr × Int)} (h:bs.Perm cs):tot bs=tot cs:=by
 induction h with
 | nil=>rfl
 | cons x _ ih=>simp only [tot]; omega
 | swap x y l=>simp only [tot]; omega
 | trans _ _ h1 h2=>omega
theorem len_tot:∀ bs:List (Tr × Int),bs.length<=tot bs
 | []=>Nat.le_refl _
 | p::r=>by have:=len_tot r; show r.length+1<=1+p.1.2.parts+tot r; omega
theorem tot_jn (bs:List (Tr × Int)):tot (jn bs)<=tot bs:=by
 have key:∀ (bs acc:List (Tr × Int)),tot (bs.foldl jstep acc)<=tot acc+tot bs:=by
  intro bs
  induction bs with
  | nil=>intro acc; simp [tot]
  | cons x r ih =>
   intro acc
   have h1:=ih (jstep acc x)
   have h2:tot (jstep acc x)<=tot acc+(1+x.1.2.parts):=by
    rcases List.eq_nil_or_concat acc with h | ⟨a,z,h⟩
    ·subst h; simp [jstep_nil,tot]
    ·subst h
     rw [List.concat_eq_append,jstep_snoc]
     by_cases hz:z.1=x.1
     ·rw [if_pos hz,tot_append,tot_append]; simp only [tot]; rw [hz]; omega
     ·rw [if_neg hz,tot_append,tot_append]; simp only [tot]; omega
   show tot (r.foldl jstep (jstep acc x))<=tot acc+(1+x.1.2.parts+tot r)
   omega
 have:=key bs []
 simpa [jn,tot] using this
theorem mem_deep:∀ (g:Gr) (p:Tr × Int),p ∈ g.ps->p.1.2.deep < g.deep
 | .nil,p,h=>by cases h
 | .cons k g m r,p,h=>by
  rcases List.mem_cons.mp h with h | h
  ·subst h; show g.deep < max (1+g.deep) r.deep; omega
  ·have:=mem_deep r p h; show _ < max (1+g.deep) r.deep; omega
theorem mem_parts:∀ (g:Gr) (p:Tr × Int),p ∈ g.ps->p.1.2.parts < g.parts
 | .nil,p,h=>by cases h
 | .cons k g m r,p,h=>by
  rcases List.mem_cons.mp h with h | h
  ·subst h; show g.parts < 1+g.parts+r.parts; omega
  ·have:=mem_parts r p h; show _ < 1+g.parts+r.parts; omega
theorem deep_le {n:Nat}:∀ {g:Gr},(∀ p ∈ g.ps,p.1.2.deep < n)->g.deep<=n
 | .nil,_=>Nat.zero_le _
 | .cons k g m r,h=>by
  have h1:=h ((k,g),m) (mcs ..)
  have h2:=deep_le (g:=r) fun p hp=>h p (mcm _ hp)
  show max (1+g.deep) r.deep<=n
  have:g.deep < n:=h1
  omega
theorem len_parts (g:Gr):g.ps.length<=g.parts:=by have:=len_tot g.ps; rw [tot_ps] at this; exact this
theorem alikes:∀ g h:Gr,alikeAll g.encs h.encs=true
 | .nil,_=>by simp [encs,alikeAll]
 | .cons _ _ _ _,.nil=>by simp [encs,alikeAll]
 | .cons k g m r,.cons k' g' m' r'=>by
  have h1:=alikes g g'
  have h2:=alikes r r'
  simp [encs,alikeAll,alike,h1,h2]
theorem alike_enc (g h:Gr):alike g.enc h.enc=true:=by
 show alike (.tuple g.encs) (.tuple h.encs)=true
 rw [alike]; exact alikes g h
theorem sb (a b:Str):(a == b)=decide (a=b):=by by_cases h:a=b <;> simp [h]
theorem eqvs:∀ g h:Gr,PyData.eqvAll g.encs h.encs=decide (g=h)
 | .nil,.nil=>by simp [encs,PyData.eqvAll]
 | .nil,.cons _ _ _ _=>by simp [encs,PyData.eqvAll]
 | .cons _ _ _ _,.nil=>by simp [encs,PyData.eqvAll]
 | .cons k g m r,.cons k' g' m' r'=>by
  have h1:=eqvs g g'
  have h2:=eqvs r r'
  simp [encs,PyData.eqvAll,PyData.eqv,h1,h2,Bool.and_assoc,ib,sb]
theorem eqv_enc (g h:Gr):PyData.eqv g.enc h.enc=decide (g=h):=by
 rw [enc,enc,PyData.eqv]; exact eqvs g h
instance:Orderly tEnc where
 al a b:=by simp [tEnc,alike,alikeAll,alike_enc]
 eq a b:=by
  simp only [tEnc,PyData.eqv,PyData.eqvAll,eqv_enc,Bool.and_true,sb]
  by_cases h:a=b
  ·subst h; simp
  ·rw [decide_eq_false h,Bool.and_eq_false_iff]
   by_cases h1:a.1=b.1
   ·exact .inr (decide_eq_false fun h2=>h (Prod.ext h1 h2))
   ·exact .inl (decide_eq_false h1)
theorem noLists_encs:∀ g:Gr,noLists g.encs=true
 | .nil=>by simp [encs,noLists]
 | .cons k g m r=>by simp [encs,noLists,noList,noLists_encs g,noLists_encs r]
theorem noList_enc (g:Gr):noList g.enc=true:=by simp [enc,noList,noLists_encs g]
theorem noList_tEnc (t:Tr):noList (tEnc t)=true:=by simp [tEnc,noList,noLists,noList_enc]
theorem noList_pEnc (p:Tr × Int):noList (pEnc p)=true:=by simp [pEnc,pairE,noList,noLists,noList_tEnc]
theorem encs_depth:∀ g:Gr,PyData.depthAll g.encs<=3*g.deep
 | .nil=>by simp [encs,PyData.depthAll,deep]
 | .cons k g m r=>by
  have h1:=encs_depth g
  have h2:=encs_depth r
  simp only [encs,PyData.depthAll,PyData.depth,deep]
  omega
theorem enc_depth (g:Gr):g.enc.depth<=3*g.deep+1:=by
 have:=encs_depth g
 simp only [enc,PyData.depth]
 omega
theorem tEnc_depth (t:Tr):(tEnc t).depth<=3*t.2.deep+2:=by
 have:=enc_depth t.2
 simp only [tEnc,PyData.depth,PyData.depthAll]; omega
theorem pEnc_depth (p:Tr × Int):(pEnc p).depth<=3*p.1.2.deep+3:=by
 have:=tEnc_depth p.1
 simp only [pEnc,pairE,PyData.depth,PyData.depthAll]; omega
def Ok (C:Int):Gr->Prop
 | .nil=>True
 | .cons k g m r=>NameOk k/\g.Ok C/\1<=m/\m < C/\r.Ok C/\∀ p ∈ r.ps,dataLt (tEnc (k,g)) (tEnc p.1)=true
theorem Ok.mono {B C:Int} (h:B<=C):∀ {g:Gr},g.Ok B->g.Ok C
 | .nil,_=>trivial
 | .cons k g m r,⟨h0,h1,h2,h3,h4,h5⟩=>⟨h0,Ok.mono h h1,h2,by omega,Ok.mono h h4,h5⟩
theorem ok_ps {C:Int}:∀ {bs:List (Tr × Int)},(ofPs bs).Ok C ↔ (∀ p ∈ bs,NameOk p.1.1/\p.1.2.Ok C/\1<=p.2/\p.2 < C)/\bs.Pairwise (fun p q=>dataLt (tEnc p.1) (tEnc q.1)=true)
 | []=>by simp [ofPs,Ok]
 | x::r=>by
  have ih:=ok_ps (C:=C) (bs:=r)
  show (NameOk x.1.1/\x.1.2.Ok C/\1<=x.2/\x.2 < C/\(ofPs r).Ok C/\∀ p ∈ (ofPs r).ps,dataLt (tEnc x.1) (tEnc p.1)=true) ↔ _
  rw [ps_ofPs,List.pairwise_cons,ih]
  constructor
  ·rintro ⟨h0,h1,h2,h3,⟨h4,h5⟩,h6⟩
   refine ⟨fun p hp=>?_,h6,h5⟩
   rcases List.mem_cons.mp hp with hp | hp
   ·subst hp; exact ⟨h0,h1,h2,h3⟩
   ·exact h4 p hp
  ·rintro ⟨h1,h2,h3⟩
   have h4:=h1 x (mcs ..)
   exact ⟨h4.1,h4.2.1,h4.2.2.1,h4.2.2.2,⟨fun p hp=>h1 p (mcm _ hp),h3⟩,h2⟩
theorem ok_iff {C:Int} {g:Gr}:g.Ok C ↔ (∀ p ∈ g.ps,NameOk p.1.1/\p.1.2.Ok C/\1<=p.2/\p.2 < C)/\g.ps.Pairwise (fun p q=>dataLt (tEnc p.1) (tEnc q.1)=true):=by
 have:=ok_ps (C:=C) (bs:=g.ps)
 rw [ofPs_ps] at this
 exact this
theorem strOk_name {k:Str} (h:NameOk k):PySem.PyData.strOk k=true:=by
 show k.cps.all (· < 0x110000)=true
 rw [Array.all_eq_true']
 intro c hc
 have:=h.2.2 c (by simpa using hc)
 simp; omega
theorem lays {C:Int}:∀ {g:Gr},g.Ok C->PyData.canLayAll0 g.encs=true
 | .nil,_=>by simp [encs,PyData.canLayAll0]
 | .cons k g m r,⟨h0,h1,_,_,h4,_⟩=>by
  have e1:=lays h1
  have e2:=lays h4
  simp [encs,PyData.canLayAll0,PyData.canLay0,e1,e2,strOk_name h0]
theorem shaped_tEnc {C:Int} {t:Tr} (h0:NameOk t.1) (h:t.2.Ok C) (hd:t.2.deep<=20):SeqAt.shaped (tEnc t)=true:=by
 have:=tEnc_depth t
 unfold SeqAt.shaped
 rw [show (tEnc t).canLay0=true by simp [tEnc,PyData.canLay0,PyData.canLayAll0,strOk_name h0,enc,lays h]]
 simp; omega
theorem pEnc_all (bs:List (Tr × Int)):AllAlike (bs.map pEnc):=AllAlike.of fun a b=>Orderly.al (enc:=pEnc) a b
theorem pEnc_sortable (bs:List (Tr × Int)):Sortable (bs.map pEnc):=Sortable.tuples fun b=>⟨_,_,rfl⟩
def tidy (bs:List (Tr × Int)):Gr:=ofPs (tdy tEnc bs)
theorem tidy_parts (bs:List (Tr × Int)):(tidy bs).parts<=tot bs:=by
 unfold tidy
 rw [parts_ofPs]
 have h1:=tot_jn (srtE (pairE tEnc) bs)
 rw [tot_perm (srtE_perm bs)] at h1
 exact h1
theorem tidy_deep {n:Nat} {bs:List (Tr × Int)} (h:∀ p ∈ bs,p.1.2.deep < n):(tidy bs).deep<=n:=by
 refine deep_le fun p hp=>?_
 unfold tidy at hp
 rw [ps_ofPs] at hp
 obtain ⟨q,hq,e⟩:=tdy_keys bs p hp
 rw [<- e]; exact h q hq
theorem tidy_ok {C D:Int} {bs:List (Tr × Int)} (h:∀ p ∈ bs,NameOk p.1.1/\p.1.2.Ok C/\1<=p.2) (hD:allE bs < D) (hCD:C<=D):(tidy bs).Ok D:=by
 unfold tidy
 rw [ok_ps]
 refine ⟨fun p hp=>?_,tdy_rise bs⟩
 obtain ⟨q,hq,e⟩:=tdy_keys bs p hp
 have hq2:=h q hq
 obtain ⟨h1,h2⟩:=tdy_pos (enc:=tEnc) (fun p hp=>(h p hp).2.2) p hp
 rw [<- e]
 exact ⟨hq2.1,hq2.2.1.mono hCD,h1,by omega⟩
end Gr
def GA (K:PySem.W.Frag) (H:Hp) (v:V) (g:Gr):Prop:=Dp K H v g.enc
section
variable {K:PySem.W.Frag} {ps:List Addr} {H H':Hp} {v:V} {g:Gr}
theorem GA.sb (h:GA K H v g) (e:SB ps H H'):GA K H' v g:=Dp_sb e _ _ g.noList_enc h
theorem GA_bears (h:GA K H v g):∃ a xs,v=.ref a/\SqT K H a xs/\Bears K H Gr.pEnc xs g.ps:=by
 have h':Dp K H v (.tuple g.encs):=h
 cases h' with
 | tup hs ha =>
  rw [Gr.encs_ps] at ha
  exact ⟨_,_,rfl,hs,Bears.of ha⟩
theorem Bears_ga {a:Addr} {xs:List V} {bs:List (Tr × Int)} (h:SqT K H a xs) (hb:Bears K H Gr.pEnc xs bs):GA K H (.ref a) (Gr.ofPs bs):=by
 refine Dp.tup h ?_
 rw [Gr.encs_ps,Gr.ps_ofPs]
 exact hb.dp
theorem GA_nil {p:Addr} (h:SqT K H p []):GA K H (.ref p) .nil:=Dp.tup h .nil
theorem TA_parts {t:Tr} (h:Dp K H v (Gr.tEnc t)):∃ a u,v=.ref a/\SqT K H a [.str t.1,u]/\GA K H u t.2:=by
 cases h with
 | tup hs ha =>
  cases ha with
  | cons h1 h2 =>
   cases h2 with
   | cons h3 h4 =>
    cases h4
    cases h1
    exact ⟨_,_,rfl,hs,h3⟩
theorem PA_parts {p:Tr × Int} (h:Dp K H v (Gr.pEnc p)):∃ a b u,v=.ref a/\SqT K H a [.ref b,.int p.2]/\SqT K H b [.str p.1.1,u]/\GA K H u p.1.2/\Dp K H (.ref b) (Gr.tEnc p.1):=by
 cases h with
 | tup hs ha =>
  cases ha with
  | cons h1 h2 =>
   cases h2 with
   | cons h3 h4 =>
    cases h4
    cases h3
    obtain ⟨b,u,rfl,hb,hg⟩:=TA_parts h1
    exact ⟨_,b,u,rfl,hs,hb,hg,h1⟩
end
def spTidyG (K:PySem.W.Frag):Sp:=fun vs H Q _=>∃ (a:Addr) (xs:List V) (bs:List (Tr × Int)),vs=[.ref a]/\(SqL K H a xs\/SqT K H a xs)/\Bears K H Gr.pEnc xs bs/\bs.length<=1000/\(∃ C,∀ p ∈ bs,NameOk p.1.1/\p.1.2.Ok C/\p.1.2.deep<=18) /\
 ∀ (v:V) (H':Hp),SB [] H H'->GA K H' v (Gr.tidy bs)->Q v H'
def Ltr (z:Str) (n:Nat):Prop:=z.cps.toList.length=n/\∀ c ∈ z.cps.toList,97<=c/\c<=122
theorem Ltr.name {z:Str} {n:Nat} (h:Ltr z n) (h1:1<=n) (h8:n<=8):NameOk z:=⟨by have:=h.1; omega,by have:=h.1; omega,h.2⟩
theorem Ltr.len {z:Str} {n:Nat} (h:Ltr z n):z.length=n:=by have:=h.1; simpa [Str.length] using this
theorem Ltr.one {c:Nat} (h:97<=c/\c<=122):Ltr ⟨#[c]⟩ 1:=⟨rfl,fun x hx=>by simp at hx; subst hx; exact h⟩
theorem Ltr.append {a b:Str} {n m:Nat} (ha:Ltr a n) (hb:Ltr b m):Ltr (a++b) (n+m):=by
 have e:(a++b).cps.toList=a.cps.toList++b.cps.toList:=by show (a.cps++b.cps).toList=_; simp
 unfold Ltr
 rw [e,List.length_append,ha.1,hb.1]
 refine ⟨rfl,fun c hc=>?_⟩
 rcases List.mem_append.mp hc with hc | hc
 ·exact ha.2 c hc
 ·exact hb.2 c hc
theorem Ltr.take {z:Str} {n:Nat} (h:Ltr z n) (k:Nat):Ltr (cutS z none (some (k:Int))) (min k n):=by
 have hl:=h.len
 have e:(cutS z none (some (k:Int))).cps.toList=z.cps.toList.take (min k n):=by
  unfold cutS
  rw [HT.sIx_none,HT.sIx_nat,hl]
  simp
 unfold Ltr
 rw [e,List.length_take,h.1]
 exact ⟨by omega,fun c hc=>h.2 c (List.mem_of_mem_take hc)⟩
theorem glue_ones:∀ (cs:List Nat) (acc:Array Nat),((cs.map fun c=>(⟨#[c]⟩:Str)).foldl (fun acc p=>acc++(Str.ofString "").cps++p.cps) acc).toList=acc.toList++cs
 | [],acc=>by simp
 | c::cs,acc=>by
  have e0:(Str.ofString "").cps=#[]:=by decide +kernel
  rw [List.map_cons,List.foldl_cons,glue_ones cs]
  simp [e0]
theorem join_ltrs (cs:List Nat) (h:∀ c ∈ cs,97<=c/\c<=122):Ltr (Txt.join (Str.ofString "") (cs.map fun c=>⟨#[c]⟩)) cs.length:=by
 have e:(Txt.join (Str.ofString "") (cs.map fun c=>(⟨#[c]⟩:Str))).cps.toList=cs:=by
  show (Builtin.Str.glued (Str.ofString "") (cs.map fun c=>(⟨#[c]⟩:Str))).cps.toList=cs
  unfold Builtin.Str.glued
  cases cs with
  | nil=>rfl
  | cons c r =>
   show ((r.map fun c=>(⟨#[c]⟩:Str)).foldl (fun acc p=>acc++(Str.ofString "").cps++p.cps) #[c]).toList=c::r
   rw [glue_ones]
   rfl
 unfold Ltr
 rw [e]
 exact ⟨rfl,h⟩
abbrev abc:Str:=Str.ofString "abcdefghijklmnopqrstuvwxyz"
theorem abc_at:∀ r:Nat,r < 26->∃ c,abc.cps.toList[r]?=some c/\97<=c/\c<=122:=by
 have:∀ r:Fin 26,∃ c:Fin 200,abc.cps.toList[r.val]?=some c.val/\97<=c.val/\c.val<=122:=by decide +kernel
 intro r hr
 obtain ⟨c,h⟩:=this ⟨r,hr⟩
 exact ⟨c.val,h⟩
theorem abc_len:abc.length<=sizeLine:=by decide +kernel
theorem atI_natN {xs:List Nat} {j:Nat} {c:Nat} (h:xs[j]?=some c):atI xs (j:Int)=some c:=by
 have hj:j < xs.length:=(List.getElem?_eq_some_iff.mp h).1
 unfold atI ixN
 rw [if_pos (by omega),if_pos (by omega)]
 simpa using h
def rSortedB (K:PySem.W.Frag) {β:Type} (enc:β->PyData) (vs:List V) (H:Hp) (Q:VK):Prop:=∃ (a:Addr) (xs:List V) (bs:List β),vs=[V.ref a]/\(SqL K H a xs\/SqT K H a xs)/\Bears K H enc xs bs/\AllAlike (bs.map enc)/\Sortable (bs.map enc)/\bs.length<=10000000/\(∀ b ∈ bs,(enc b).depth<=100) /\
 ∀ (p:Addr) (ys:List V),H p=none->Bears K H enc ys (bs.mergeSort (dataLe false enc))->Q (.ref p) (upd H p (.lst ys))
theorem cr_sortedB {X:Cx} {β:Type} (enc:β->PyData) (hu:X.A.units+110 < cLine):CallR X (.builtin "sorted") (rSortedB X.K enc):=by
 intro pins s σ H vs us Q I r h
 obtain ⟨a,xs,bs,h1,h2,h3⟩:=h
 rcases h2 with h2 | h2
 ·exact cr_sortedL enc hu pins s σ H vs us Q I r ⟨a,xs,bs,h1,h2,h3⟩
 ·exact cr_sortedT enc hu pins s σ H vs us Q I r ⟨a,xs,bs,h1,h2,h3⟩
theorem Gr.shaped_rows {bs:List (Tr × Int)} (h:∃ C,∀ b ∈ bs,NameOk b.1.1/\b.1.2.Ok C/\b.1.2.deep<=18):SeqAt.shaped (.list (bs.map Gr.pEnc))=true:=by
 obtain ⟨C,h⟩:=h
 have h1:PyData.canLayAll0 (bs.map Gr.pEnc)=true:=by
  induction bs with
  | nil=>simp [PyData.canLayAll0]
  | cons b r ih =>
   have e:=ih fun c hc=>h c (mcm _ hc)
   obtain ⟨n,o,_⟩:=h b (mcs ..)
   rw [List.map_cons,PyData.canLayAll0,e]
   simp [Gr.pEnc,pairE,Gr.tEnc,PyData.canLay0,PyData.canLayAll0,Gr.enc,Gr.lays o,Gr.strOk_name n]
 have h2:PyData.depthAll (bs.map Gr.pEnc)<=57:=by
  clear h1
  induction bs with
  | nil=>simp [PyData.depthAll]
  | cons b r ih =>
   have e1:=ih (fun c hc=>h c (mcm _ hc))
   have e2:=(h b (mcs ..)).2.2
   have e3:=Gr.pEnc_depth b
   rw [List.map_cons,PyData.depthAll]
   omega
 have h3:(PyData.list (bs.map Gr.pEnc)).depth=PyData.depthAll (bs.map Gr.pEnc)+1:=by simp [PyData.depth]
 unfold SeqAt.shaped
 rw [PyData.canLay0,h1,Bool.true_and]
 exact decide_eq_true (by omega)
namespace Gr
def within:Gr->List (Tr × Int)
 | .nil=>[]
 | .cons k g m r=>((k,g),m)::(g.within++r.within)
theorem within_ps:∀ g:Gr,g.within=g.ps.flatMap fun p=>p::p.1.2.within
 | .nil=>rfl
 | .cons k g m r=>by show ((k,g),m)::(g.within++r.within)=_; rw [within_ps r]; rfl
theorem within_length:∀ g:Gr,g.within.length=g.parts
 | .nil=>rfl
 | .cons k g m r=>by show (g.within++r.within).length+1=1+g.parts+r.parts; rw [List.length_append,within_length g,within_length r]; omega
theorem natAbs_lt {x:Int} {n:Nat} (h0:0<=x) (h:x < 2 ^ n):x.natAbs < 2 ^ n:=by
 have h2:((x.natAbs:Nat):Int)=x:=Int.natAbs_of_nonneg h0
 have h3:((2 ^ n:Nat):Int)=(2:Int) ^ n:=by rw [Int.natCast_pow]; rfl
 exact Int.ofNat_lt.mp (by rw [h2,h3]; exact h)
end Gr
def spPairsW (K:PySem.W.Frag) (n:Nat):Sp:=fun vs H Q _=>∃ (v:V) (g:Gr),vs=[v]/\GA K H v g/\g.deep < n/\g.parts<=200000/\∀ (D:Addr) (us:List V) (H':Hp),SB [] H H'->H D=none->H' D=some (.lst us)->Bears K H' Gr.pEnc us g.within->Q (.ref D) H'
section
variable {P:Program} {w:World} {K:PySem.W.Frag} {mg:Str->Option Value} {base:Heap} {f:Addr} {fd:FuncData}
theorem none_pairs_within {ps:List Str} {k:Nat}:FnOk P w K mg base CX0 k f fd ps (spPairsW K 0):=none_sp fun vs H Q E ⟨v,l,_,_,h,_⟩=>by omega
end
mutual
def plS:PyData->Bool
 | .int _=>true
 | .str x=>PyData.strOk x
 | .tuple ds=>plSs ds
 | _=>false
def plSs:List PyData->Bool
 | []=>true
 | d::ds=>plS d&&plSs ds
end
mutual
theorem plS_lay:∀ d:PyData,plS d=true->d.canLay0=true
 | .int _,_=>by simp [PyData.canLay0]
 | .str _,h=>by rw [plS] at h; rw [PyData.canLay0]; exact h
 | .tuple ds,h=>by rw [plS] at h; rw [PyData.canLay0]; exact plSs_lay ds h
 | .none,h=>by simp [plS] at h
 | .bool _,h=>by simp [plS] at h
 | .list _,h=>by simp [plS] at h
 | .dict _,h=>by simp [plS] at h
theorem plSs_lay:∀ ds:List PyData,plSs ds=true->PyData.canLayAll0 ds=true
 | [],_=>by simp [PyData.canLayAll0]
 | d::ds,h=>by
  rw [plSs,Bool.and_eq_true] at h
  rw [PyData.canLayAll0,plS_lay d h.1,plSs_lay ds h.2]; rfl
end
theorem small5 {n:Nat} (h:n<=1000000):n < sizeLine:=by
 have:sizeLine=16777216:=sizeLine_eq
 omega
open PySem.Sem in
theorem enumT_new {v:Value} {o:Obj} {Hh:Heap->Prop} (Bg:Begins v o Hh) :
  Meets (Builtin.«enumerate.__new__» ⟨[.type "enumerate",v],[]⟩) (fun _ R s=>Hh s.heap/\R (.ok (.ret (.ref (s.heap.push o).objs.size))) { s with heap:=(s.heap.push o).push { cls:=.type "enumerate",data:=.fields #[.none,.bool false,.ref s.heap.objs.size,rawInt 0,.none,.none] } }) :=
 .of_wp fun prog w A R s h=>by
  obtain ⟨hp,g,d,tk,os⟩:=s
  obtain ⟨h1,h⟩:=h
  have hsub:=sub_enumerate
  have go:∀ {A2:Around} {E2:Value->Shared->Prop} {Q2:Value->Shared->Prop},Q2 (.ref hp.objs.size) ⟨hp.push o,g,d,tk,os⟩->wpAny (model prog w) A2 (pyIter v) Q2 E2 ⟨hp,g,d,tk,os⟩:=fun z=>Bg.iter prog w _ _ ⟨hp,g,d,tk,os⟩ _ h1 z
  wp_walk using go
  refine wpAny_stack_any fun stk=>wpAny_pure ?_
  split
  ·rename_i cl _ _ _ _ _
   cases (cl == Value.type "enumerate") <;> (wp_walk using go; exact ⟨_,rfl,h⟩)
  ·wp_walk using go; exact ⟨_,rfl,h⟩
section
variable {prog:Program} {w:World} {A:Around} {E:Value->Shared->Prop} {s:Shared}
theorem call_enumT {t:Addr} {items:Array Value} {Q:Value->Shared->Prop} (hT:s.heap.IsTuple t items)
  (h:∀ h2,IsEnum h2 (s.heap.objs.size+1) s.heap.objs.size 0 .none->h2.IsTupleIter s.heap.objs.size t 0->(∀ b ob,s.heap.get? b=some ob->h2.get? b=some ob)->Q (.ref (s.heap.objs.size+1)) { s with heap:=h2 }):wpAny (model prog w) A (call (.type "enumerate") [.ref t]) Q E s:=by
 have Bg:=begins_tuple t items
 refine callType_new F.called_enumerate (by decide) (F.typeCall_enumerate_1 _) (F.newCall_enumerate_1 _) (fun ob=>F.args_object_init_2 ob _) F.entry_enumerate_new (enumT_new Bg) ⟨hT,?_⟩
 have hz:(s.heap.push { cls:=.type "tuple_iterator",data:=.fields #[.ref t,.int 0 0] }).objs.size=s.heap.objs.size+1:=Heap.size_push ..
 show _/\_
 rw [hz]
 have he:IsEnum ((s.heap.push { cls:=.type "tuple_iterator",data:=.fields #[.ref t,.int 0 0] }).push { cls:=.type "enumerate",data:=.fields #[.none,.bool false,.ref s.heap.objs.size,rawInt 0,.none,.none] }) (s.heap.objs.size+1) s.heap.objs.size 0 .none:=by
  have z:=Heap.get?_push_size (s.heap.push { cls:=.type "tuple_iterator",data:=.fields #[.ref t,.int 0 0] }) (o:={ cls:=.type "enumerate",data:=.fields #[.none,.bool false,.ref s.heap.objs.size,rawInt 0,.none,.none] }) rfl
  rw [hz] at z
  exact z
 exact ⟨⟨_,he,rfl⟩,h _ he ⟨_,Heap.get?_push_of_some _ (Heap.get?_push_size _ rfl),rfl,rfl⟩ fun b ob x=>Heap.get?_push_of_some _ (Heap.get?_push_of_some _ x)⟩
end
def IteT (K:PySem.W.Frag) (a:Addr):It :=
 ⟨fun i H=>∃ (xs:List V) (x:V),SqT K H a xs/\xs[i]?=some x,
  fun i H v H2=>∃ T x,v=.ref T/\H T=none/\H2=upd H T (.tup [.int (i:Nat),x])/\∀ xs,SqT K H a xs->xs[i]?=some x,
  fun i H=>∃ xs:List V,SqT K H a xs/\xs.length=i⟩
theorem turn_enumT {P:Program} {w:World} {K:PySem.W.Frag} {elts:List Expr} {kk:Nat} {tpos:Pos} (a e it:Addr) (hei:e ≠ it) (hai:a ≠ it) (hea:e ≠ a) :
  Turn P w K (.Tuple elts kk tpos) (IteT K a) [e,it] e (fun i h=>(∃ old,IsEnum h e it ((i:Nat):Int) old)/\h.IsTupleIter it a i) where
 mem:=by simp
 obj:=fun i h st b hb=>by
  obtain ⟨⟨old,he⟩,o,ho,hc,hd⟩:=st
  rcases (show b=e\/b=it by simpa using hb) with z | z
  ·rw [z]; exact ⟨_,he,fun v q=>nomatch q⟩
  ·rw [z]; exact ⟨o,ho,fun v q=>by rw [hd] at q; cases q⟩
 keep:=fun i h h2 st k=>let ⟨⟨old,he⟩,o,ho,r⟩:=st; ⟨⟨old,k e (by simp) _ he⟩,o,k it (by simp) o ho,r⟩
 item:=by
  intro X hP hw hK hc i pins s σ H E I hf st hg
  subst hP hw hK
  obtain ⟨⟨old,he⟩,hit⟩:=st
  obtain ⟨xs,x,hq,hx⟩:=hg
  obtain ⟨its,rv,p,hz⟩:=I.tuple hq
  obtain ⟨u,hu,ru⟩:=rv.get hx
  have hel:e < s.heap.objs.size:=Heap.lt_size he
  have hil:it < s.heap.objs.size:=by obtain ⟨_,z,_⟩:=hit; exact Heap.lt_size z
  have Dr:=Draws.tuple (prog:=X.prog) (w:=X.w) (A:=X.A.in1) (I.ok.hd hc) it a hai its.toArray
  have hlt:i < its.toArray.size:=by
   have:=(List.getElem?_eq_some_iff.mp hu).1
   simpa using this
  refine wpAny_pyNext_enum_itemD Dr he ⟨hit,p⟩ hlt hei (by simp [hei,hea]) fun y h2 tk hy ho hst hT hsz hk=>?_
  have hyu:y=u:=by
   have h3:its[i]?=some y:=by simpa using hy
   rw [hu] at h3; exact (Option.some.inj h3).symm
  subst hyu
  refine ⟨_,rfl,wpAny_letOwnedTupleGo_enum (s:={ s with heap:=h2,toks:=tk+1 }) ho fun h3 he3 sb=>?_⟩
  have hT2:h3.get? s.heap.objs.size=some { cls:=.type "tuple",data:=.seq #[.int i tk,y] }:=(sb.2 _ (Nat.ne_of_gt hel)).trans hT
  have nw:ObjOk X.prog X.w (upd H s.heap.objs.size (.tup [.int (i:Nat),x])) h3 s.heap.objs.size (.tup [.int (i:Nat),x]):=⟨by show 2<=sizeLine; decide,[.int i tk,y],.cons ⟨_,rfl⟩ (.cons ru .nil),⟨_,hT2,rfl,_,rfl⟩⟩
  have I1:Inv X pins σ (upd H s.heap.objs.size (.tup [.int (i:Nat),x])) { s with heap:=h3,toks:=tk+1 }:=I.turnedNew (ch:=[e,it]) (fun b ob hb z=>(sb.2 b (fun y=>hb (by simp [y]))).trans (hk b ob (fun y=>hb (by simp [y])) (fun y=>hb (by simp [y])) z)) hf (Nat.le_refl _) nw
  refine ⟨.ref s.heap.objs.size,_,I1,rfl,⟨_,x,rfl,I.hok.fresh (Nat.le_refl _),rfl,fun ys hy=>by rw [I.tuple_inj hy hq]; exact hx⟩,⟨⟨y,?_⟩,?_⟩,fun b hb=>?_⟩
  ·rw [show ((i+1:Nat):Int)=(i:Int)+1 by omega]; exact he3
  ·obtain ⟨o,ho2,r⟩:=hst.1
   exact ⟨o,(sb.2 it (Ne.symm hei)).trans ho2,r⟩
  ·have hb2:b < s.heap.objs.size:=by
    rcases (show b=e\/b=it by simpa using hb) with z | z
    ·rw [z]; exact hel
    ·rw [z]; exact hil
   rw [upd_ne (Nat.ne_of_lt hb2)]; exact (hf b hb).1
 done:=by
  intro X hP hw hK hc i pins s σ H E I hf st hg
  subst hP hw hK
  obtain ⟨⟨old,he⟩,hit⟩:=st
  obtain ⟨xs,hq,hx⟩:=hg
  obtain ⟨its,rv,p,hz⟩:=I.tuple hq
  obtain ⟨f0,f1,f2,f3,f4,f5⟩:=hf it (by simp)
  have hl:=rv.length
  have ht:s.heap.IsTuple a its.toArray:=p
  have Dr:=Draws.tuple (prog:=X.prog) (w:=X.w) (A:=X.A.in1) (I.ok.hd hc) it a hai its.toArray
  have hn:its.toArray.size=i:=by simp; omega
  refine wpAny_pyNext_enum_endD Dr he ⟨by rw [hn]; exact hit,ht⟩ fun h2 eb=>⟨rfl,I.turned (t':=s.toks) (fun b o hb z=>eb b o hb z) f0 f1 f3 f4 f5⟩
 self:=fun A i s Q E st h=>let ⟨⟨_,he⟩,_⟩:=st; wpAny_pyIter_enum he h
def iEnumT (K:PySem.W.Frag) (te:TE):TI:=fun σ H R=>te σ H fun v H1=>∃ a xs,v=.ref a/\SqT K H1 a xs/\R (IteT K a) H1
theorem pi_enumT {X:Cx} {ex:Expr} {te:TE} {p pos tpos:Pos} {elts:List Expr} {kk:Nat} (hg:Gl X "enumerate") (hm:X.mg "enumerate"=none) (he:PE X ex te) (hs:starEach [ex] X.env=(false,eval ex X.env)::starEach [] X.env:=by rfl) :
  PI X (.Tuple elts kk tpos) (.Call (.Name "enumerate" p) [ex] [] pos) (iEnumT X.K te):=by
 refine ⟨fun pins s σ H R I h=>?_⟩
 refine Call_ (ld_blt I hg hm boot_enumerate (PyProof.Rows.callWith_type1 (args_cons (thn (he.run pins s σ H _ I h) fun u s1 ⟨v,H1,I1,r1,q1⟩=>args_nil ?_) hs) hs rfl))
 obtain ⟨a,xs,ev,hq,q⟩:=q1
 subst ev
 cases r1
 obtain ⟨its,rv,pt,hz⟩:=I1.tuple hq
 have ht:s1.heap.IsTuple a its.toArray:=pt
 have hal:a < s1.heap.objs.size:=by obtain ⟨_,z,_⟩:=ht; exact Heap.lt_size z
 refine call_enumT ht fun h2 he2 hit hk=>wpAny_pyIter_enum he2 ?_
 have I2:Inv X pins σ H1 { s1 with heap:=h2 }:=I1.kept (t':=s1.toks) hk
 refine ⟨s1.heap.objs.size+1,[s1.heap.objs.size+1,s1.heap.objs.size],_,_,H1,rfl,I2,turn_enumT a (s1.heap.objs.size+1) s1.heap.objs.size (Nat.succ_ne_self _) (Nat.ne_of_lt hal) (Nat.ne_of_gt (Nat.lt_succ_of_lt hal)),⟨⟨.none,he2⟩,hit⟩,fun b hb=>?_,q⟩
 have hle:s1.heap.objs.size<=b:=by
  rcases (show b=s1.heap.objs.size+1\/b=s1.heap.objs.size by simpa using hb) with z | z
  ·rw [z]; exact Nat.le_add_right _ _
  ·rw [z]; exact Nat.le_refl _
 exact I1.fpOk hle (I1.hok.fresh hle)
theorem walk_enumT {K:PySem.W.Frag} {a:Addr} {xs:List V}:Walk (IteT K a) xs.length (fun H=>SqT K H a xs) (YPair (fun i=>some (.int (i:Nat))) (fun i=>xs[i]?)):=by
 refine ⟨fun i _ hi q=>⟨xs,xs[i],q,by simp [hi]⟩,fun _ q=>⟨xs,q,rfl⟩,fun i H v H2 _ q y=>?_⟩
 obtain ⟨T,x,h1,h2,h3,h4⟩:=y
 exact ⟨T,.int (i:Nat),x,h1,h2,h3,rfl,h4 xs q⟩
abbrev Pl:=List Nat
def plInts (p:Pl):List PyData:=p.map fun n:Nat=>.int (n:Int)
def plEnc (p:Pl):PyData:=.tuple (plInts p)
theorem pl_alikes:∀ p q:Pl,alikeAll (plInts p) (plInts q)=true
 | [],_=>by simp [plInts,alikeAll]
 | _::_,[]=>by simp [plInts,alikeAll]
 | a::p,b::q=>by
  have:=pl_alikes p q
  show alikeAll (.int a::plInts p) (.int b::plInts q)=true
  simp [alikeAll,alike,this]
theorem pl_eqvs:∀ p q:Pl,PyData.eqvAll (plInts p) (plInts q)=decide (p=q)
 | [],[]=>by simp [plInts,PyData.eqvAll]
 | [],_::_=>by simp [plInts,PyData.eqvAll]
 | _::_,[]=>by simp [plInts,PyData.eqvAll]
 | a::p,b::q=>by
  have ih:=pl_eqvs p q
  show PyData.eqvAll (.int a::plInts p) (.int b::plInts q)=_
  simp only [PyData.eqvAll,PyData.eqv,ih,ib]
  by_cases h:a=b
  ·subst h; simp
  ·have:¬ ((a:Int)=(b:Int)):=by omega
   simp [h,this]
instance:Orderly plEnc where
 al a b:=by show alike (.tuple _) (.tuple _)=true; rw [alike]; exact pl_alikes a b
 eq a b:=by show PyData.eqv (.tuple _) (.tuple _)=_; rw [PyData.eqv]; exact pl_eqvs a b
theorem pl_noList (p:Pl):noList (plEnc p)=true:=by
 have:∀ p:Pl,noLists (plInts p)=true:=by
  intro p
  induction p with
  | nil=>simp [plInts,noLists]
  | cons a r ih=>show noLists (.int a::plInts r)=true; simp [noLists,noList,ih]
 show noList (.tuple _)=true
 rw [noList]; exact this p
theorem PL_ints {K:PySem.W.Frag} {H:Hp} {v:V} {p:Pl} (h:Dp K H v (plEnc p)):∃ a,v=.ref a/\SqT K H a (p.map fun n:Nat=>V.int (n:Int)):=by
 have key:∀ {p:Pl} {xs:List V},DpAll K H xs (plInts p)->xs=p.map fun n:Nat=>V.int (n:Int):=by
  intro p
  induction p with
  | nil=>intro xs h; cases h; rfl
  | cons a r ih =>
   intro xs h
   cases h with
   | cons h1 h2=>cases h1; rw [ih h2]; rfl
 cases h with
 | tup hs ha=>rw [key ha] at hs; exact ⟨_,rfl,hs⟩
theorem PL_of {K:PySem.W.Frag} {H:Hp} {a:Addr} {p:Pl} (h:SqT K H a (p.map fun n:Nat=>V.int (n:Int))):Dp K H (.ref a) (plEnc p):=by
 refine Dp.tup h ?_
 have key:∀ p:Pl,DpAll K H (p.map fun n:Nat=>V.int (n:Int)) (plInts p):=by
  intro p
  induction p with
  | nil=>exact .nil
  | cons a r ih=>exact .cons (.int _) ih
 exact key p
def Wh (K:PySem.W.Frag) (H:Hp) (v:V) (o:Option Int):Prop:=(∃ i,v=.int i/\o=some i)\/(o=none/\∃ (n:String) (b1 b2:Bool),TyX K H v (.type n)/\kitB n "int"=some b1/\(b1=true->kitB n "bool"=some b2)/\(b1&&!b2)=false)
inductive Whs (K:PySem.W.Frag) (H:Hp):List V->List (Option Int)->Prop where
 | nil:Whs K H [] []
 | cons {v:V} {o:Option Int} {vs:List V} {os:List (Option Int)}:Wh K H v o->Whs K H vs os->Whs K H (v::vs) (o::os)
section
variable {K:PySem.W.Frag} {H H':Hp}
theorem Whs.length:∀ {vs:List V} {os:List (Option Int)},Whs K H vs os->vs.length=os.length
 | _,_,.nil=>rfl
 | _,_,.cons _ h=>congrArg (·+1) h.length
theorem Whs.get:∀ {vs:List V} {os:List (Option Int)},Whs K H vs os->∀ {i:Nat} {v:V},vs[i]?=some v->∃ o,os[i]?=some o/\Wh K H v o
 | _,_,.nil,i,v,e=>by simp at e
 | _,_,.cons (o:=o) h hs,0,v,e=>by
  have:_=v:=Option.some.inj e
  subst this; exact ⟨o,rfl,h⟩
 | _,_,.cons h hs,i+1,v,e=>hs.get (i:=i) e
theorem Wh.sb {v:V} {o:Option Int} (h:Wh K H v o) (e:SB [] H H'):Wh K H' v o:=by
 rcases h with h | ⟨h,n,b1,b2,ty,k⟩
 ·exact .inl h
 ·exact .inr ⟨h,n,b1,b2,TyX_sb e (fun _ _=>nmn) ty,k⟩
theorem Whs.sb (e:SB [] H H'):∀ {vs:List V} {os:List (Option Int)},Whs K H vs os->Whs K H' vs os
 | _,_,.nil=>.nil
 | _,_,.cons h hs=>.cons (h.sb e) (Whs.sb e hs)
def plO (p:Pl):List (Option Int):=p.map fun n:Nat=>some (n:Int)
theorem Whs.pl (K:PySem.W.Frag) (H:Hp):∀ p:Pl,Whs K H (p.map fun n:Nat=>V.int (n:Int)) (plO p)
 | []=>.nil
 | n::r=>.cons (.inl ⟨_,rfl,rfl⟩) (Whs.pl K H r)
end
def stp (g:Gr):Option Int->Option Tr
 | none=>none
 | some n=>if 0<=n then (g.ps[n.toNat]?).map (·.1) else none
def lk:Tr->List (Option Int)->Option Tr
 | t,[]=>some t
 | t,o::r=>(stp t.2 o).bind fun u=>lk u r
theorem lk_append:∀ (t:Tr) (as bs:List (Option Int)),lk t (as++bs)=(lk t as).bind fun u=>lk u bs
 | t,[],bs=>rfl
 | t,o::r,bs=>by
  show (stp t.2 o).bind (fun u=>lk u (r++bs))=((stp t.2 o).bind fun u=>lk u r).bind fun u=>lk u bs
  cases stp t.2 o with
  | none=>rfl
  | some u=>exact lk_append u r bs
theorem lk_none {t:Tr} {os:List (Option Int)} {i:Nat} {o:Option Int} {u:Tr} (h1:lk t (os.take i)=some u) (h2:os[i]?=some o) (h3:stp u.2 o=none):lk t os=none:=by
 have hl:i < os.length:=(List.getElem?_eq_some_iff.mp h2).1
 have e:os=os.take i++o::os.drop (i+1):=by
  have:=List.drop_eq_getElem_cons hl
  rw [(List.getElem?_eq_some_iff.mp h2).2] at this
  rw [<- this,List.take_append_drop]
 rw [e,lk_append,h1]
 show (stp u.2 o).bind _=none
 rw [h3]; rfl
theorem lk_next {t:Tr} {os:List (Option Int)} {i:Nat} {o:Option Int} {u x:Tr} (h1:lk t (os.take i)=some u) (h2:os[i]?=some o) (h3:stp u.2 o=some x):lk t (os.take (i+1))=some x:=by
 rw [List.take_add_one,h2,lk_append,h1]
 show (stp u.2 o).bind _=some x
 rw [h3]; rfl
def spTreeAt (K:PySem.W.Frag) (C:Addr):Sp:=fun vs H Q E=>∃ (v:V) (g:Gr) (a:Addr) (xs:List V) (os:List (Option Int)),vs=[v,.ref a]/\GA K H v g/\SqT K H a xs/\Whs K H xs os /\
 (∀ t,os ≠ []->lk ("",g) os=some t->∀ (x:V) (H':Hp),SB [] H H'->Dp K H' x (Gr.tEnc t)->Q x H')/\((os=[]\/lk ("",g) os=none)->∀ H',SB [] H H'->E (.ref C) none H')
mutual
inductive Tg (K:PySem.W.Frag) (H:Hp):V->PyData->Prop
 | int (i:Int):Tg K H (.int i) (.int i)
 | str (z:Str):z.length<=1000->Tg K H (.str z) (.str z)
 | tup {a:Addr} {xs:List V} {ds:List PyData}:SqT K H a xs->TgAll K H xs ds->Tg K H (.ref a) (.tuple ds)
 | oth {v:V} {n:String}:TyX K H v (.type n)->kitB n "tuple"=some false->kitB n "str"=some false->(kitB n "int"=some false\/n="bool")->Tg K H v .none
inductive TgAll (K:PySem.W.Frag) (H:Hp):List V->List PyData->Prop
 | nil:TgAll K H [] []
 | cons {v:V} {vs:List V} {d:PyData} {ds:List PyData}:Tg K H v d->TgAll K H vs ds->TgAll K H (v::vs) (d::ds)
end
mutual
def strip:PyData->PyData
 | .int i=>.int i
 | .tuple ds=>.tuple (strips ds)
 | _=>.none
def strips:List PyData->List PyData
 | []=>[]
 | d::r=>strip d::strips r
end
theorem many_strip (d:PyData):manyD (strip d)=manyD d:=by cases d <;> simp [strip,manyD]
section
variable {K:PySem.W.Frag} {H H':Hp}
mutual
theorem Tg.th:∀ {v:V} {d:PyData},Tg K H v d->Th K [] H v (strip d)
 | _,_,.int i=>by rw [strip]; exact .int i
 | _,_,.str z _=>by rw [strip] <;> first | exact .oth (.base (.str z)) (by decide +kernel) (.inl (by decide +kernel)) (fun _ _=>nmn) | simp
 | _,_,.tup hs ha=>by rw [strip]; exact .tup hs (TgAll.th ha)
 | _,_,.oth ty k1 _ k2=>by rw [strip] <;> first | exact .oth ty k1 k2 (fun _ _=>nmn) | simp
theorem TgAll.th:∀ {vs:List V} {ds:List PyData},TgAll K H vs ds->ThAll K [] H vs (strips ds)
 | _,_,.nil=>by rw [strips]; exact .nil
 | _,_,.cons h t=>by rw [strips]; exact .cons (Tg.th h) (TgAll.th t)
end
mutual
theorem Tg_sb (e:SB [] H H'):∀ {v:V} {d:PyData},Tg K H v d->Tg K H' v d
 | _,_,.int i=>.int i
 | _,_,.str z hz=>.str z hz
 | _,_,.tup hs ha=>.tup (e.sqT hs) (TgAll_sb e ha)
 | _,_,.oth ty k0 k1 k2=>.oth (TyX_sb e (fun _ _=>nmn) ty) k0 k1 k2
theorem TgAll_sb (e:SB [] H H'):∀ {vs:List V} {ds:List PyData},TgAll K H vs ds->TgAll K H' vs ds
 | _,_,.nil=>.nil
 | _,_,.cons h t=>.cons (Tg_sb e h) (TgAll_sb e t)
end
theorem TgAll.length:∀ {vs:List V} {ds:List PyData},TgAll K H vs ds->vs.length=ds.length
 | _,_,.nil=>rfl
 | _,_,.cons _ t=>by rw [List.length_cons,List.length_cons,TgAll.length t]
theorem TgAll.get:∀ {vs:List V} {ds:List PyData} {i:Nat} {v:V},TgAll K H vs ds->vs[i]?=some v->∃ d,ds[i]?=some d/\Tg K H v d
 | _,_,_,_,.nil,e=>by simp at e
 | _,_,0,_,.cons h t,e=>by simp at e; subst e; exact ⟨_,rfl,h⟩
 | _,_,i+1,v,.cons h t,e=>by
  obtain ⟨d,h1,h2⟩:=TgAll.get (i:=i) (v:=v) t (by simpa using e)
  exact ⟨d,by simpa using h1,h2⟩
theorem Tg.ty {v:V} {d:PyData} (h:Tg K H v d):∃ n b,TyX K H v (.type n)/\kitB n "tuple"=some b/\(b=true->∃ a xs ds,v=.ref a/\d=.tuple ds/\SqT K H a xs/\TgAll K H xs ds)/\(b=false->∀ ds,d ≠ .tuple ds):=by
 cases h with
 | int i=>exact ⟨"int",false,.base (.int i),by decide +kernel,fun z=>(nomatch z),fun _ ds z=>nomatch z⟩
 | str z hz=>exact ⟨"str",false,.base (.str z),by decide +kernel,fun z=>(nomatch z),fun _ ds z=>nomatch z⟩
 | tup hs ha=>exact ⟨"tuple",true,(SqT_ty hs),by decide +kernel,fun _=>⟨_,_,_,rfl,rfl,hs,ha⟩,fun z=>(nomatch z)⟩
 | oth ty k1 _ k2=>exact ⟨_,false,ty,k1,fun z=>(nomatch z),fun _ ds z=>nomatch z⟩
theorem Tg.txt {v:V} {d:PyData} (h:Tg K H v d):∃ n b,TyX K H v (.type n)/\kitB n "str"=some b/\(b=true->∃ z,v=.str z/\d=.str z/\z.length<=1000)/\(b=false->∀ z,d ≠ .str z):=by
 cases h with
 | int i=>exact ⟨"int",false,.base (.int i),by decide +kernel,fun z=>(nomatch z),fun _ ds z=>nomatch z⟩
 | str z hz=>exact ⟨"str",true,.base (.str z),by decide +kernel,fun _=>⟨z,rfl,rfl,hz⟩,fun z=>(nomatch z)⟩
 | tup hs ha=>exact ⟨"tuple",false,(SqT_ty hs),by decide +kernel,fun z=>(nomatch z),fun _ ds z=>nomatch z⟩
 | oth ty _ k1 k2=>exact ⟨_,false,ty,k1,fun z=>(nomatch z),fun _ ds z=>nomatch z⟩
end
instance (z:Str):Decidable (NameOk z):=inferInstanceAs (Decidable (_/\_/\_))
def nameD:PyData->Bool
 | .str z=>decide (NameOk z)
 | _=>false
mutual
def groveD:PyData->Bool
 | .tuple ds=>grPs ds&&risingD (ds.map exp0)
 | _=>false
def grPs:List PyData->Bool
 | []=>true
 | d::ds=>grP d&&grPs ds
def grP:PyData->Bool
 | .tuple ds=>grP2 ds
 | _=>false
def grP2:List PyData->Bool
 | []=>false
 | t::r=>treeD t&&ladP3 r
def treeD:PyData->Bool
 | .tuple ds=>trD2 ds
 | _=>false
def trD2:List PyData->Bool
 | []=>false
 | k::r=>nameD k&&trD3 r
def trD3:List PyData->Bool
 | []=>false
 | g::r=>groveD g&&r.isEmpty
end
theorem ladP3_iff {r:List PyData} (h:ladP3 r=true):∃ i,r=[.int i]/\(1:Int)<=i:=by
 match r,h with
 | [],h=>simp [ladP3] at h
 | .int i::[],h=>simp [ladP3,manyD] at h; exact ⟨i,rfl,h⟩
 | .int i::_::_,h=>simp [ladP3] at h
 | .none::_,h=>simp [ladP3,manyD] at h
 | .bool _::_,h=>simp [ladP3,manyD] at h
 | .str _::_,h=>simp [ladP3,manyD] at h
 | .list _::_,h=>simp [ladP3,manyD] at h
 | .dict _::_,h=>simp [ladP3,manyD] at h
 | .tuple _::_,h=>simp [ladP3,manyD] at h
theorem nameD_iff {d:PyData} (h:nameD d=true):∃ z,d=.str z/\NameOk z:=by
 cases d with
 | str z=>exact ⟨z,rfl,of_decide_eq_true h⟩
 | _=>simp [nameD] at h
mutual
theorem groveD_gr:∀ d:PyData,groveD d=true->∃ g:Gr,d=g.enc
 | .tuple ds,h=>by
  rw [groveD,Bool.and_eq_true] at h
  obtain ⟨g,e⟩:=grPs_enc ds h.1
  exact ⟨g,by rw [e]; rfl⟩
 | .none,h=>by simp [groveD] at h
 | .bool _,h=>by simp [groveD] at h
 | .int _,h=>by simp [groveD] at h
 | .str _,h=>by simp [groveD] at h
 | .list _,h=>by simp [groveD] at h
 | .dict _,h=>by simp [groveD] at h
theorem grPs_enc:∀ ds:List PyData,grPs ds=true->∃ g:Gr,ds=g.encs
 | [],_=>⟨.nil,rfl⟩
 | d::ds,h=>by
  rw [grPs,Bool.and_eq_true] at h
  obtain ⟨r,er⟩:=grPs_enc ds h.2
  obtain ⟨t,i,ed,he⟩:=grP_enc d h.1
  exact ⟨.cons t.1 t.2 i r,by rw [er,ed]; rfl⟩
theorem grP_enc:∀ d:PyData,grP d=true->∃ (t:Tr) (i:Int),d=.tuple [Gr.tEnc t,.int i]/\(1:Int)<=i
 | .tuple ds,h=>by
  rw [grP] at h
  obtain ⟨e,i,ed,he⟩:=grP2_enc ds h
  exact ⟨e,i,by rw [ed],he⟩
 | .none,h=>by simp [grP] at h
 | .bool _,h=>by simp [grP] at h
 | .int _,h=>by simp [grP] at h
 | .str _,h=>by simp [grP] at h
 | .list _,h=>by simp [grP] at h
 | .dict _,h=>by simp [grP] at h
theorem grP2_enc:∀ ds:List PyData,grP2 ds=true->∃ (t:Tr) (i:Int),ds=[Gr.tEnc t,.int i]/\(1:Int)<=i
 | [],h=>by simp [grP2] at h
 | d::r,h=>by
  rw [grP2,Bool.and_eq_true] at h
  obtain ⟨t,et⟩:=treeD_tr d h.1
  obtain ⟨i,er,hi⟩:=ladP3_iff h.2
  exact ⟨t,i,by rw [et,er],hi⟩
theorem treeD_tr:∀ d:PyData,treeD d=true->∃ t:Tr,d=Gr.tEnc t
 | .tuple ds,h=>by
  rw [treeD] at h
  obtain ⟨t,et⟩:=trD2_enc ds h
  exact ⟨t,by rw [et]; rfl⟩
 | .none,h=>by simp [treeD] at h
 | .bool _,h=>by simp [treeD] at h
 | .int _,h=>by simp [treeD] at h
 | .str _,h=>by simp [treeD] at h
 | .list _,h=>by simp [treeD] at h
 | .dict _,h=>by simp [treeD] at h
theorem trD2_enc:∀ ds:List PyData,trD2 ds=true->∃ t:Tr,ds=[.str t.1,t.2.enc]
 | [],h=>by simp [trD2] at h
 | d::r,h=>by
  rw [trD2,Bool.and_eq_true] at h
  obtain ⟨z,ez,_⟩:=nameD_iff h.1
  obtain ⟨g,eg⟩:=trD3_enc r h.2
  exact ⟨(z,g),by rw [ez,eg]⟩
theorem trD3_enc:∀ ds:List PyData,trD3 ds=true->∃ g:Gr,ds=[g.enc]
 | [],h=>by simp [trD3] at h
 | d::r,h=>by
  rw [trD3,Bool.and_eq_true] at h
  obtain ⟨g,eg⟩:=groveD_gr d h.1
  have:r=[]:=by cases r with | nil=>rfl | cons _ _=>simp at h
  exact ⟨g,by rw [eg,this]⟩
end
section
variable {K:PySem.W.Frag} {H:Hp}
theorem GA_tg {C:Int}:∀ (g:Gr) {vs:List V},g.Ok C->DpAll K H vs g.encs->TgAll K H vs g.encs
 | .nil,vs,_,h=>by cases h; exact .nil
 | .cons k g m r,vs,ho,h=>by
  cases h with
  | cons h1 h2 =>
   refine .cons ?_ (GA_tg r ho.2.2.2.2.1 h2)
   cases h1 with
   | tup hs ha =>
    cases ha with
    | cons h3 h4 =>
     cases h4 with
     | cons h5 h6 =>
      cases h6; cases h5
      refine .tup hs (.cons ?_ (.cons (.int _) .nil))
      cases h3 with
      | tup hs2 hb =>
       cases hb with
       | cons h7 h8 =>
        cases h8 with
        | cons h9 h10 =>
         cases h10; cases h7
         cases h9 with
         | tup hs3 hc=>exact .tup hs2 (.cons (.str _ (by have:=ho.1.2.1; simp [Str.length]; simp at this; omega)) (.cons (.tup hs3 (GA_tg g ho.2.1 hc)) .nil))
theorem Tg_ga:∀ (g:Gr) {vs:List V},TgAll K H vs g.encs->DpAll K H vs g.encs
 | .nil,vs,h=>by cases h; exact .nil
 | .cons k g m r,vs,h=>by
  cases h with
  | cons h1 h2 =>
   refine .cons ?_ (Tg_ga r h2)
   cases h1 with
   | tup hs ha =>
    cases ha with
    | cons h3 h4 =>
     cases h4 with
     | cons h5 h6 =>
      cases h6; cases h5
      refine .tup hs (.cons ?_ (.cons (.int _) .nil))
      cases h3 with
      | tup hs2 hb =>
       cases hb with
       | cons h7 h8 =>
        cases h8 with
        | cons h9 h10 =>
         cases h10; cases h7
         cases h9 with
         | tup hs3 hc=>exact .tup hs2 (.cons (.str _) (.cons (.tup hs3 (Tg_ga g hc)) .nil))
end
def spName (K:PySem.W.Frag):Sp:=fun vs H Q _=>∃ (v:V) (d:PyData),vs=[v]/\Tg K H v d/\∀ H',SB [] H H'->Q (.bl (nameD d)) H'
def spIsTree (K:PySem.W.Frag) (n:Nat):Sp:=fun vs H Q _=>∃ (v:V) (d:PyData),vs=[v]/\Tg K H v d/\d.depth < n/\d.depth<=80/\wide d<=1000/\∀ H',SB [] H H'->Q (.bl (treeD d)) H'
def spIsGrove (K:PySem.W.Frag) (n:Nat):Sp:=fun vs H Q _=>∃ (v:V) (d:PyData),vs=[v]/\Tg K H v d/\d.depth < n/\d.depth<=80/\wide d<=1000/\∀ H',SB [] H H'->Q (.bl (groveD d)) H'
def spPairsQ (K:PySem.W.Frag) (tp:Bool) (n:Nat):Sp:=fun vs H Q _=>∃ (a:Addr) (xs:List V) (ds:List PyData),vs=[.ref a]/\(if tp=true then SqT K H a xs else SqL K H a xs)/\TgAll K H xs ds/\PyData.depthAll ds < n/\PyData.depthAll ds<=79/\wide (.tuple ds)<=1000/\∀ H',SB [] H H'->Q (.bl (grPs ds)) H'
def spRunOf (K:PySem.W.Frag):Sp:=fun vs H Q _=>∃ (z y:Str) (k:Nat),vs=[.str z,.int (k:Int),.str y]/\z.length<=100000/\k<=z.length/\∀ e:Nat,k<=e->e<=z.length->(∀ j c,k<=j->j < e->z.cps.toList[j]?=some c->c ∈ y.cps.toList)->(∀ c,z.cps.toList[e]?=some c->c ∉ y.cps.toList)->Q (.str (cutS z (some (k:Int)) (some (e:Int)))) H
theorem mem_abc (c:Nat):c ∈ abc.cps.toList ↔ 97<=c/\c<=122:=by
 have e:abc.cps.toList=(List.range 26).map (·+97):=by decide +kernel
 rw [e,List.mem_map]
 constructor
 ·rintro ⟨x,hx,rfl⟩
  have:=List.mem_range.mp hx
  omega
 ·intro h
  exact ⟨c-97,List.mem_range.mpr (by omega),by omega⟩
theorem len_cps (z:Str):z.cps.toList.length=z.length:=by simp [Str.length]
theorem cut0 (z:Str) {e:Nat} (he:e<=z.length):(cutS z (some ((0:Nat):Int)) (some (e:Int))).cps.toList=z.cps.toList.take e:=by
 unfold cutS
 rw [HT.sIx_nat,HT.sIx_nat]
 simp [Nat.min_eq_left he]
theorem run_name {z:Str} {e:Nat} (h1:1<=z.length) (h8:z.length<=8) (he:e<=z.length) (hin:∀ j c,0<=j->j < e->z.cps.toList[j]?=some c->c ∈ abc.cps.toList) (hout:∀ c,z.cps.toList[e]?=some c->c ∉ abc.cps.toList) :
  decide (V.str (cutS z (some ((0:Nat):Int)) (some (e:Int)))=V.str z)=nameD (.str z):=by
 have hl:=len_cps z
 rw [Bool.eq_iff_iff,decide_eq_true_iff,nameD,decide_eq_true_iff]
 constructor
 ·intro h
  injection h with h
  have h2:=cut0 z he
  rw [h] at h2
  have h3:z.cps.toList.length=min e z.cps.toList.length:=by
   have:=congrArg List.length h2
   rwa [List.length_take] at this
  refine ⟨by omega,by omega,fun c hc=>?_⟩
  obtain ⟨j,hj⟩:=List.mem_iff_getElem?.mp hc
  have hj2:=(List.getElem?_eq_some_iff.mp hj).1
  exact (mem_abc c).mp (hin j c (Nat.zero_le _) (by omega) hj)
 ·rintro ⟨_,_,hall⟩
  have e1:e=z.length:=by
   rcases Nat.lt_or_ge e z.length with h | h
   ·obtain ⟨c,hc⟩:∃ c,z.cps.toList[e]?=some c:=⟨_,List.getElem?_eq_getElem (by omega)⟩
    exact absurd ((mem_abc c).mpr (hall c (List.mem_of_getElem? hc))) (hout c hc)
   ·omega
  have h2:=cut0 z he
  rw [e1,<- hl,List.take_length] at h2
  congr 1
  have h3:∀ a b:Str,a.cps.toList=b.cps.toList->a=b:=by
   intro a b hab
   cases a; cases b
   congr 1
   exact Array.toList_inj.mp hab
  rw [e1,<- hl]
  exact h3 _ _ h2
theorem name_out {z:Str} (h:¬ (1<=z.length/\z.length<=8)):nameD (.str z)=false:=by
 have hl:=len_cps z
 rw [nameD]
 exact decide_eq_false fun ⟨h1,h2,_⟩=>h ⟨by omega,by omega⟩
theorem nameD_ok {z:Str} (h:NameOk z):nameD (.str z)=true:=decide_eq_true h
theorem treeD_of {t:Tr} (h0:NameOk t.1) (h:groveD t.2.enc=true):treeD (Gr.tEnc t)=true:=by
 rw [Gr.tEnc,treeD,trD2,trD3,nameD_ok h0,h]; rfl
theorem grP_of {t:Tr} {m:Int} (h0:NameOk t.1) (h:groveD t.2.enc=true) (hm:1<=m):grP (Gr.pEnc (t,m))=true:=by
 show grP (.tuple [Gr.tEnc t,.int m])=true
 rw [grP,grP2,ladP3,treeD_of h0 h]
 simp [manyD,hm]
theorem groveD_ok {C:Int}:∀ {g:Gr},g.Ok C->groveD g.enc=true
 | .nil,_=>by decide +kernel
 | .cons k g m r,⟨h0,h1,h2,h3,h4,h5⟩=>by
  have a1:=groveD_ok h1
  have a2:=groveD_ok h4
  rw [Gr.enc,groveD,Bool.and_eq_true] at a2
  have hp:grP (Gr.pEnc ((k,g),m))=true:=grP_of h0 a1 h2
  have e:(Gr.cons k g m r).encs=Gr.pEnc ((k,g),m)::r.encs:=rfl
  rw [Gr.enc,groveD,e,grPs,hp,a2.1,Bool.true_and,Bool.true_and,List.map_cons]
  cases r with
  | nil=>rfl
  | cons k2 g2 m2 r2 =>
   have hlt:dataLt (Gr.tEnc (k,g)) (Gr.tEnc (k2,g2))=true:=h5 ((k2,g2),m2) (mcs ..)
   have e2:(Gr.cons k2 g2 m2 r2).encs=Gr.pEnc ((k2,g2),m2)::r2.encs:=rfl
   have a3:=a2.2
   rw [e2,List.map_cons] at a3 ⊢
   show (dataLt (Gr.tEnc (k,g)) (Gr.tEnc (k2,g2))::ltsD _).all id=true
   rw [List.all_cons,show id (dataLt (Gr.tEnc (k,g)) (Gr.tEnc (k2,g2)))=true from hlt,Bool.true_and]
   exact a3
theorem wides_gr:∀ g:Gr,wides g.encs<=2+g.parts/\g.encs.length<=g.parts
 | .nil=>⟨by show wides []<=_; rw [wides]; omega,Nat.le_refl _⟩
 | .cons k g m r=>by
  obtain ⟨h1,h2⟩:=wides_gr g
  obtain ⟨h3,h4⟩:=wides_gr r
  have e:(Gr.cons k g m r).encs=Gr.pEnc ((k,g),m)::r.encs:=rfl
  have e2:wide (Gr.pEnc ((k,g),m))<=2+g.parts:=by
   show wide (.tuple [.tuple [.str k,.tuple g.encs],.int m])<=_
   simp only [wide,wides,List.length_cons,List.length_nil]
   omega
  rw [e,wides,List.length_cons]
  show _<=2+(1+g.parts+r.parts)/\_<=1+g.parts+r.parts
  omega
section
variable {K:PySem.W.Frag} {H:Hp} {C:Int}
theorem GA_thing {g:Gr} {v:V} (ho:g.Ok C) (h:GA K H v g):Tg K H v g.enc:=by
 cases (h:Dp K H v (.tuple g.encs)) with
 | tup hs ha=>exact .tup hs (GA_tg g ho ha)
theorem name_short {z:Str} (h:NameOk z):z.length<=1000:=by
 have:=h.2.1
 rw [len_cps] at this
 omega
end
theorem SB.setD {H:Hp} {p:Addr} {kvs:List (Key × V)} {ps:List Addr} (h:H p=some (.dK kvs)) (hp:p ∈ ps) (o:HO):SB ps H (upd H p o):=by
 refine ⟨fun b u e n=>?_,fun b u e=>?_,fun b v u e=>?_,fun b e=>?_⟩
 ·rw [upd_ne (fun (z:b=p)=>n (by rw [z]; exact hp))]; exact e
 ·rw [upd_ne (fun (z:b=p)=>by subst z; rw [h] at e; cases e)]; exact e
 ·rw [upd_ne (fun (z:b=p)=>by subst z; rw [h] at e; cases e)]; exact e
 ·by_cases q:b=p
  ·subst q; rw [upd_same] at e; cases e
  ·rw [upd_ne q] at e; exact e
def met (xs:List Str):Nat->List Str
 | 0=>[]
 | i+1=>if (met xs i).any (· == xs.getD i Str.empty)=true then met xs i else met xs i++[xs.getD i Str.empty]
theorem met_le (xs:List Str):∀ i,(met xs i).length<=i
 | 0=>Nat.le_refl _
 | i+1=>by
  have:=met_le xs i
  unfold met
  split
  ·omega
  ·rw [List.length_append]; simp; omega
theorem met_any (xs:List Str) (i:Nat) (k:Str):(met xs (i+1)).any (· == k)=((met xs i).any (· == k) || decide (k=xs.getD i Str.empty)):=by
 rw [met]
 by_cases e:k=xs.getD i Str.empty
 ·subst e
  split
  ·rename_i h; rw [h]; simp
  ·simp
 ·rw [decide_eq_false e,Bool.or_false]
  split
  ·rfl
  ·rw [List.any_append]
   have:([xs.getD i Str.empty].any (· == k))=false:=by
    simp only [List.any_cons,List.any_nil,Bool.or_false,beq_eq_false_iff_ne]
    exact fun z=>e z.symm
   rw [this,Bool.or_false]
theorem met_len (xs:List Str) (i:Nat):(met xs (i+1)).length=if (met xs i).any (· == xs.getD i Str.empty)=true then (met xs i).length else (met xs i).length+1:=by
 rw [met]; split <;> simp
abbrev SetOfS (P:Program) (w:World) (h:Heap) (a:Addr) (L:List Str):Prop:=h.SetOf (PySem.strKind P w) a (fun k=>L.any (· == k)) L.length
theorem SetOfS.keep {P:Program} {w:World} {h h':Heap} {a:Addr} {L:List Str} (S:SetOfS P w h a L) (k:∀ o,h.get? a=some o->h'.get? a=some o):SetOfS P w h' a L:=by
 obtain ⟨o,es,ep,t,ho,r⟩:=S; exact ⟨o,es,ep,t,k o ho,r⟩
section
variable {P:Program} {w:World} {A:Around}
theorem met_loop {R:Result->Shared->Prop} {I:Addr} {fp wr:List Addr} {G:Array GenState->Array GenState->Prop} {n:Nat} {Pv:Nat->Value->Prop} {St:Nat->Shared->Prop} (W:WalksS P w A.in1 I fp wr G n Pv St) (S:Addr) (hSf:S ∉ fp) (xs:List Str) (hn:n+1 < scanBound)
  (hval:∀ i v,Pv i v->∃ t,v=.str (xs.getD i Str.empty) t):∀ (k i:Nat) (s:Shared),k+i=n->St i s->SetOfS P w s.heap S (met xs i) ->
   (∀ s',Moved (S::wr) G s s'->SetOfS P w s'.heap S (met xs n)->R (.ok (.ret .none)) s')->codeAny (model P w) A (.builtin "set.update.loop" ⟨[.ref S,.ref I],[]⟩) R s:=by
 have out:S ∉ wr:=fun z=>hSf (W.sub _ z)
 have up:∀ b ∈ wr,b ∈ S::wr:=fun b z=>mcm _ z
 intro k
 induction k with
 | zero =>
  intro i s e st hS hR
  rw [Nat.zero_add] at e; subst e
  refine codeAny_builtin F.entry_set_update_loop (by
   rw [Around.under_plainId F.plain_set_update_loop _]
   show wpAny _ A.in1 (pyNext (.ref I) >>= _) _ _ s
   refine wpAny_bind (W.done s _ _ st fun s' hm=>?_)
   show wpAny _ A.in1 (ret Value.none) _ _ s'
   exact wpAny_pure (hR s' (hm.mono up) (hS.keep fun o e=>hm.heap S o out e)))
 | succ k ih =>
  intro i s e st hS hR
  have lt:i < n:=by omega
  refine codeAny_builtin F.entry_set_update_loop (by
   rw [Around.under_plainId F.plain_set_update_loop _]
   show wpAny _ A.in1 (pyNext (.ref I) >>= _) _ _ s
   refine wpAny_bind (W.item i s _ _ lt st fun v s' hP st' hm=>?_)
   obtain ⟨t,rfl⟩:=hval i v hP
   have hS':SetOfS P w s'.heap S (met xs i):=hS.keep fun o e=>hm.heap S o out e
   show wpAny _ A.in1 (holding [Value.str (xs.getD i Str.empty) t] (setAdd S (.str (xs.getD i Str.empty) t)) >>= _) _ _ s'
   refine wpAny_bind (wpAny_holding ?_)
   unfold setAdd
   refine wpAny_holding (wpAny_bind ((PySem.strKind P w).pyHash (k:=xs.getD i Str.empty) (PySem.Froz.is_str _ _) ?_))
   have room:(met xs i).length+1 < scanBound:=by have:=met_le xs i; omega
   refine wpAny_setAddHashed_of (knd:=PySem.strKind P w) (s:={ s' with toks:=s'.toks+1 }) (PySem.Froz.is_str _ _) rfl hS' room fun h' hsb hS2=>?_
   have hSi:SetOfS P w h' S (met xs (i+1)):=SetOf_congr hS2 (fun k'=>(met_any xs i k').symm) (met_len xs i).symm
   refine wpAny_pure ⟨plainId_quiet F.plain_set_update_loop _,ih (i+1) _ (by omega) (W.frame _ s' _ _ st' (Nat.le_succ _) fun b hb o e=>?_) hSi fun s'' hm'' hS''=>?_⟩
   ·rw [hsb.2 b fun z:b=S=>hSf (z ▸ hb)]; exact e
   ·refine hR s'' (Moved.trans W.gtrans ((hm.mono up).then_heap (Nat.le_succ _) fun b o hb e=>?_) hm'') hS''
    rw [hsb.2 b fun z:b=S=>hb (z ▸ mcs)]; exact e)
abbrev eo (led:Bool):Obj:={ cls:=.type "set",dict:=none,data:=.set #[] 0 (.fresh 0 0 led) }
set_option maxHeartbeats 8000000 in
theorem call_setS {E:Value->Shared->Prop} {s:Shared} {l:Addr} {its:Array Value} {xs:List Str} {Q:Value->Shared->Prop} (hh:A.handled=none) (hl:s.heap.IsList l its) (hi:StrsAre its.toList xs) (hb:its.size+1 < scanBound)
  (h:∀ (h':Heap) (tk:Nat),SetOfS P w h' s.heap.objs.size (met xs its.size)->(∀ b o,b < s.heap.objs.size->s.heap.get? b=some o->h'.get? b=some o)->Q (.ref s.heap.objs.size) { s with heap:=h',toks:=tk }) :
  wpAny (model P w) A (call (.type "set") [.ref l]) Q E s:=by
 obtain ⟨c,tl',hmro⟩:=PySem.F.called_set.mro
 have k1:=PySem.F.called_set.made; have k2:=PySem.F.called_set.sub
 refine wpAny_call (codeAny_of_tree (by
  show wpAny _ _ (callAny (.type "set") _) _ _ _
  refine wpAny_pure ⟨Code.quiet_builtin _ (by decide +kernel),codeAny_builtin PySem.F.entry_type_call ?_⟩
  rw [Around.under_plain (weight_type_call_type "set" [.ref l] []) rfl]
  have k3:=PySem.F.called_set.notType; have k4:=PySem.F.called_set.canCreate; have k5:=PySem.F.typeCall_set_1 (.ref l)
  repeat (any_goals (first | assumption | wp_step))
  refine codeAny_mono (code_set_new_1 (.ref l) (E:=E) (Q₁:=fun ob z=>∃ led:Bool,ob=.ref s.heap.objs.size/\z={ s with heap:=s.heap.push (eo led) }) fun led=>⟨led,rfl,rfl⟩) fun r z hr=>?_
  cases r with
  | error e=>exact hr
  | ok fl =>
  cases fl with
  | ret ob =>
   obtain ⟨led,rfl,rfl⟩:=hr
   have at0:(s.heap.push (eo led)).get? s.heap.objs.size=some (eo led):=Heap.get?_push_size _ rfl
   have ty0:Shared.TypeIs { s with heap:=s.heap.push (eo led) } (.ref s.heap.objs.size) "set":=⟨_,at0,rfl⟩
   have k6:=PySem.F.called_set.init.lookup; have k7:=PySem.F.called_set.init.bind (.ref s.heap.objs.size)
   repeat (any_goals (first | assumption | wp_step))
   refine codeAny_mono (codeAny_call_builtin (R:=wants (fun r s₂=>r=.none/\∃ h' tk,s₂={ s with heap:=h',toks:=tk }/\SetOfS P w h' s.heap.objs.size (met xs its.size)/\(∀ b o,b < s.heap.objs.size->s.heap.get? b=some o->h'.get? b=some o)) E) PySem.F.called_set.init.plain PySem.F.entry_set_init (check_set_init_1 ty0 ?_)) fun r₂ s₂ hr₂=>?_
   ·obtain ⟨⟨oc,od,oda,osl⟩,hol,hcl,nl,hdl⟩:=hl
    simp only at hcl hdl
    subst hcl hdl
    have hol':(s.heap.push (eo led)).get? l=some ⟨.type "list",od,.seq its nl,osl⟩:=Heap.get?_push_of_some _ hol
    have k8:=PySem.F.sub_list_set; have k9:=PySem.F.sub_list_frozenset
    have k10:(Value.type "list" == Value.type "dict")=false:=by decide
    have isl:(s.heap.push (eo led)).IsList l its:=⟨_,hol',rfl,nl,rfl⟩
    unfold Builtin.«set.__init__» noKeywords Builtin.Frozenset.updateFrom
    generalize hPI:pyIter=PI
    wp_walk
    subst hPI
    refine wpAny_pyIter_list isl (wpAny_bind (wpAny_runValue ?_))
    have ltl:l < s.heap.objs.size:=Heap.lt_size hol
    have sz1:(s.heap.push (eo led)).objs.size=s.heap.objs.size+1:=Heap.size_push ..
    have lne:l ≠ (s.heap.push (eo led)).objs.size:=Nat.ne_of_lt (sz1 ▸ Nat.lt_succ_of_lt ltl)
    have nin:s.heap.objs.size ∉ [(s.heap.push (eo led)).objs.size,l]:=by
     intro z
     rcases List.mem_cons.mp z with z | z
     ·exact absurd (z.trans sz1) (Nat.ne_of_lt (Nat.lt_succ_self _))
     ·have:s.heap.objs.size=l:=by simpa using z
      exact absurd this.symm (Nat.ne_of_lt ltl)
    refine met_loop ((Walks.list (show A.in1.in1.in1.handled=none by simp [hh]) _ l lne its).toS) s.heap.objs.size nin xs hb (fun i v hv=>SS.strs_at hi i v (by rw [Array.getElem?_toList]; exact hv)) its.size 0 _ rfl ⟨⟨_,Heap.get?_push_size _ rfl,rfl,rfl⟩,isl.push _⟩ ?c1 ?c2
    case c1=>exact SetOf_congr ((setObjOf_fresh (knd:=PySem.strKind P w) led).setOf (Heap.get?_push_of_some _ at0) (by unfold scanBound; omega)) (fun _=>rfl) rfl
    case c2 =>
     rintro ⟨h',g',d',tk',os'⟩ hm hS'
     have eg:g'=s.gens:=hm.gens; have ed:d'=s.drawn:=hm.drawn; have eo':os'=s.os:=hm.os
     subst eg ed eo'
     show wpAny _ _ _ _ _ _
     refine wpAny_pure (show wpAny _ _ (ret Value.none) _ _ _ from wpAny_pure ⟨rfl,h',tk',rfl,hS',fun b o hb' e=>hm.heap b o (fun z=>?_) (Heap.get?_push_of_some _ (Heap.get?_push_of_some _ e))⟩)
     rcases List.mem_cons.mp z with z | z
     ·exact absurd z (Nat.ne_of_lt hb')
     ·have:b=(s.heap.push (eo led)).objs.size:=by simpa using z
      exact absurd (this.trans sz1) (Nat.ne_of_lt (Nat.lt_succ_of_lt hb'))
   ·cases r₂ with
    | error e=>exact hr₂
    | ok fl₂ =>
    cases fl₂ with
    | ret r =>
     obtain ⟨rfl,h',tk,rfl,hS',hk'⟩:=hr₂
     repeat (any_goals (first | assumption | wp_step))
     exact h _ _ hS' hk'
    | _=>exact hr₂.elim
  | _=>exact hr.elim))
end
theorem met_mem (xs:List Str):∀ (i:Nat) (k:Str),k ∈ met xs i ↔ ∃ j,j < i/\xs.getD j Str.empty=k
 | 0,k=>by simp [met]
 | i+1,k=>by
  rw [met]
  have ih:=met_mem xs i k
  split
  ·rename_i h
   rw [ih]
   refine ⟨fun ⟨j,a,b⟩=>⟨j,by omega,b⟩,fun ⟨j,a,b⟩=>?_⟩
   by_cases e:j=i
   ·subst e
    obtain ⟨y,hy,he⟩:=List.any_eq_true.mp h
    have:=(met_mem xs j y).mp hy
    rw [beq_iff_eq.mp he,b] at this
    exact this
   ·exact ⟨j,by omega,b⟩
  ·rw [List.mem_append,ih]
   refine ⟨fun z=>?_,fun ⟨j,a,b⟩=>?_⟩
   ·rcases z with ⟨j,a,b⟩ | z
    ·exact ⟨j,by omega,b⟩
    ·exact ⟨i,by omega,(List.mem_singleton.mp z).symm⟩
   ·by_cases e:j=i
    ·subst e; exact .inr (List.mem_singleton.mpr b.symm)
    ·exact .inl ⟨j,by omega,b⟩
theorem met_nodup (xs:List Str):∀ i,(met xs i).Nodup
 | 0=>List.nodup_nil
 | i+1=>by
  rw [met]
  split
  ·exact met_nodup xs i
  ·rename_i h
   refine List.nodup_append.mpr ⟨met_nodup xs i,by simp,fun a ha b hb e=>h ?_⟩
   rw [List.mem_singleton.mp hb] at e
   exact List.any_eq_true.mpr ⟨a,ha,beq_iff_eq.mpr e⟩
theorem met_all (xs:List Str) (k:Str):k ∈ met xs xs.length ↔ k ∈ xs:=by
 rw [met_mem]
 refine ⟨fun ⟨j,a,b⟩=>?_,fun h=>?_⟩
 ·rw [<- b,List.getD_eq_getElem?_getD,List.getElem?_eq_getElem a]; exact List.getElem_mem a
 ·obtain ⟨j,a,b⟩:=List.getElem_of_mem h
  exact ⟨j,a,by rw [List.getD_eq_getElem?_getD,List.getElem?_eq_getElem a]; exact b⟩
theorem met_take (xs:List Str):∀ i,i<=xs.length->(met xs i).length=i->met xs i=xs.take i
 | 0,_,_=>by simp [met]
 | i+1,hi,h=>by
  have hl:=met_le xs i
  rw [met] at h ⊢
  split at h
  ·omega
  ·rename_i hn
   rw [if_neg hn]
   rw [List.length_append,List.length_singleton] at h
   rw [met_take xs i (by omega) (by omega),List.take_add_one,List.getD_eq_getElem?_getD,List.getElem?_eq_getElem (by omega)]
   rfl
theorem met_len_nodup (xs:List Str):(met xs xs.length).length=xs.length ↔ xs.Nodup:=by
 constructor
 ·intro h
  have e:=met_take xs xs.length (Nat.le_refl _) h
  rw [List.take_length] at e
  rw [<- e]; exact met_nodup xs _
 ·intro h
  exact ((List.perm_ext_iff_of_nodup (met_nodup xs _) h).mpr fun k=>met_all xs k).length_eq
section
variable {X:Cx}
def tLenSetS (K:PySem.W.Frag) (ta:TE):TE:=fun σ H Q=>ta σ H fun x H1=>∃ (l:Addr) (zs:List Str),x=V.ref l/\SqL K H1 l (zs.map V.str)/\zs.length < 1000/\Q (.int (met zs zs.length).length) H1
theorem pe_lenSetS {a:Expr} {ta:TE} {p p2 q pos:Pos} (hc:X.calm=true) (B:BI X.mg) (g1:Gl X "len") (g2:Gl X "set") (ha:PE X a ta)
  (na:starEach [a] X.env=(false,eval a X.env)::starEach [] X.env:=by rfl):PE X (.Call (.Name "len" p) [.Call (.Name "set" p2) [a] [] q] [] pos) (tLenSetS X.K ta):=by
 refine ⟨fun pins s σ H Q I h=>Call_ (ld_blt I g1 B.len PySem.boot_len ?_)⟩
 refine PyProof.Rows.callWith_builtin1 (PyProof.Rows.args_cons (Call_ (ld_blt I g2 B.set PyProof.Rows.boot_set ?_)) rfl) rfl rfl
 refine PyProof.Rows.callWith_type1 (PyProof.Rows.args_cons (thn (ha.run pins s σ H _ I h) fun v s1 ⟨x,H1,I1,r1,l,zs,ex,hq,h1,q1⟩=>PyProof.Rows.args_nil ?_) na) na rfl
 subst ex
 cases r1
 obtain ⟨its,rv,pl,hz⟩:=I1.list hq
 have hlen:its.toArray.size=zs.length:=by rw [List.size_toArray,<- rv.length,List.length_map]
 refine call_setS (xs:=zs) (I1.ok.hd hc) pl.isList (by simpa using rv.strs) (by rw [hlen]; unfold scanBound; omega) fun h' tk hS hk=>PyProof.Rows.args_nil ?_
 rw [hlen] at hS
 have hm:=met_le zs zs.length
 obtain ⟨o,es,ep,t,ho,hex,hd,_,_,_,hf,hn⟩:=hS
 have J:Inv X pins σ H1 { s1 with heap:=h',toks:=tk }:=I1.kept fun b o e=>hk b o (Heap.lt_size e) e
 exact call_len_set ho hex hd hf (by rw [hn]; omega) ⟨.int (met zs zs.length).length,H1,J.tok _,⟨_,by rw [hn]⟩,q1⟩
end
section
variable {X:Cx} {CX:CXT} {k:Nat} {f C:Addr} {fd:FuncData} {ps:List Str} {sp:Sp} {E:L2.St->XK} {x m:Str} {p pos apos:Pos} {e o:Expr} {es:List Expr} {ta:TE} {t:TA}
def tMethZ (C:Addr) (m:Str) (sp:Sp) (E:L2.St->XK) (ta:TE) (t:TA):TE:=fun σ H Q=>ta σ H fun y H1=>∃ a dx fs,y=.ref a/\H1 a=some (.ins C dx fs)/\fs.lookup m=none/\t σ H1 fun vs H2=>sp (y::vs) H2 Q (E σ)
def tMakeZ (C:Addr) (sp:Sp) (E:L2.St->XK) (t:TA):TE:=fun σ H Q=>t σ H fun vs H1=>∀ y dx,H1 y=none->H1 dx=none->dx ≠ y ->
 sp (.ref y::vs) (upd (upd H1 dx (.own y)) y (.ins C dx [])) (fun v H2=>v=.non/\Q (.ref y) H2) (E σ)
theorem pe_methZ {pl:Sem Bool} (ho:PE X o ta) (c:Cls X.K C) (hm:Meth X.K C m f) (F:FnOk X.prog X.w X.K X.mg X.base CX k f fd ps sp) (hr:Room k X.A) (hb:Binds X.K fd ps []) (hx:∀ σ,PassesAt CX X σ (E σ)) (ha:PA X (e::es) t)
  (hst:starEach (e::es) X.env=(false,eval e X.env)::starEach es X.env:=by rfl) (hpl:(backTo pos (starEach es X.env)).any (·.1)=false:=by rfl)
  (ht:eval (.Call (.Attribute o m apos) (e::es) [] pos) X.env=(do
    let ov <- eval o X.env
    standAt apos.atName
    let (g,first) <- holding [ov] (getMethod ov m pl)
    callWith pos g first (backTo pos (starEach (e::es) X.env)) (backToKw pos (keywordEach [] X.env))):=by rfl) :
  PE X (.Call (.Attribute o m apos) (e::es) [] pos) (tMethZ C m sp E ta t):=by
 refine ⟨fun pins s σ H Q I h=>PySem.W.methodCall_KW (pl:=pl) (thn (ho.run pins s σ H _ I h) fun u s1 ⟨y,H1,I1,ry,a,dx,fs,ey,ea,l,q⟩=>?_) ht⟩
 subst ey
 cases (show u=Value.ref a from ry)
 exact getmeth_ok I1 ea c hm l (PySem.W.callWith_K (first:=[.ref a]) (h₀:=X.base) I.ok.mod.kin hm.kp
  (thn (ha.run pos pins s1 σ H1 _ I1 q) fun us s2 ⟨vs,H2,I2,r,q2⟩=>⟨I2.kIn,run_fnS (us:=.ref a::us) (vs:=.ref a::vs) F hr hb (hx σ) I2 (.cons rfl r) q2⟩) hst hpl)
theorem pe_methZ0 {pl:Sem Bool} (ho:PE X o ta) (c:Cls X.K C) (hm:Meth X.K C m f) (F:FnOk X.prog X.w X.K X.mg X.base CX k f fd ps sp) (hr:Room k X.A) (hb:Binds X.K fd ps []) (hx:∀ σ,PassesAt CX X σ (E σ))
  (ht:eval (.Call (.Attribute o m apos) [] [] pos) X.env=(do
    let ov <- eval o X.env
    standAt apos.atName
    let (g,first) <- holding [ov] (getMethod ov m pl)
    callWith pos g first (backTo pos (starEach [] X.env)) (backToKw pos (keywordEach [] X.env))):=by rfl) :
  PE X (.Call (.Attribute o m apos) [] [] pos) (tMethZ C m sp E ta tNil):=by
 refine ⟨fun pins s σ H Q I h=>PySem.W.methodCall_KW (pl:=pl) (thn (ho.run pins s σ H _ I h) fun u s1 ⟨y,H1,I1,ry,a,dx,fs,ey,ea,l,q⟩=>?_) ht⟩
 subst ey
 cases (show u=Value.ref a from ry)
 exact getmeth_ok I1 ea c hm l (PySem.W.callWith_K0 (first:=[.ref a]) I1.kIn hm.kp (run_fnS (us:=[.ref a]) (vs:=[.ref a]) F hr hb (hx σ) I1 (.cons rfl .nil) q))
theorem pe_makeZ (M:Mk X.K C f) (F:FnOk X.prog X.w X.K X.mg X.base CX k f fd ps sp) (hr:Room (k+1) X.A) (hg:Gl X x) (hm:X.mg x=some (.ref C)) (hb:Binds X.K fd ps []) (hx:∀ σ,PassesAt CX X σ (E σ))
  (ha:PA X (e::es) t) (hdb:(x == ("__debug__":Str))=false:=by decide) (he:starEach (e::es) X.env=(false,eval e X.env)::starEach es X.env:=by rfl) (hpl:(backTo pos (starEach es X.env)).any (·.1)=false:=by rfl) :
  PE X (.Call (.Name x p) (e::es) [] pos) (tMakeZ C sp E t):=by
 refine ⟨fun pins s σ H Q I h=>wpAny_Call_Name_kw (ld_glob I hg hm ?_ hdb)⟩
 refine PySem.W.callWith_K (h₀:=X.base) I.ok.mod.kin M.kp (thn (ha.run pos pins s σ H _ I h) fun us s1 ⟨vs,H1,I1,r,q⟩=>⟨I1.kIn,?_⟩) he hpl
 have hq:=q (s1.heap.objs.size+1) s1.heap.objs.size (I1.hok.fresh (Nat.le_succ _)) (I1.hok.fresh (Nat.le_refl _)) (Nat.ne_of_lt (Nat.lt_succ_self _))
 have J:=Inv.made (C:=C) I1
 have r2:Vals (V.ref (s1.heap.objs.size+1)::vs) (Value.ref (s1.heap.objs.size+1)::us):=.cons rfl r
 have hl:(Value.ref (s1.heap.objs.size+1)::us).length=ps.length:=by rw [<- r2.length]; exact F.len _ _ _ _ hq
 have b:=hb _ (Value.ref (s1.heap.objs.size+1)::us) J.kIn (by rw [List.append_nil]; exact hl)
 rw [List.append_nil] at b
 refine wpAny_call (make_map (f:=f) I1.kIn M.makes M.init (beq_iff_eq.mp M.fn) (codeAny_mono (F.run _ X.stack _ _ ⟨Value.ref (s1.heap.objs.size+1)::us,[]⟩ (Value.ref (s1.heap.objs.size+1)::us) _ _ (E σ) (hr.make C us [])
  (J.env0.make C us []) b r2 hq) fun r s' hq'=>?_))
 match r,hq' with
 | .error er,hq'=>exact hx σ pins _ _ er s' J hq'
 | .ok (.ret u),hq' =>
  obtain ⟨v,H',J3,rv,ev,q3⟩:=J.after hq'
  subst ev
  exact ⟨rv,⟨V.ref (s1.heap.objs.size+1),H',J3,rfl,q3⟩⟩
 | .ok .next,hq'=>exact hq'.elim
 | .ok .brk,hq'=>exact hq'.elim
 | .ok .cont,hq'=>exact hq'.elim
end
structure GotM (P:Program) (w:World) (K:PySem.W.Frag) (mg:Str->Option Value) (base:Heap) (C:Addr) (m:Str) (ps:List Str) (k:Nat) (sp:Sp):Prop where
 ex:∃ (f:Addr) (fd:FuncData),FnOk P w K mg base CX0 k f fd ps sp/\Meth K C m f/\Binds K fd ps []/\Cls K C
structure GotMX (P:Program) (w:World) (K:PySem.W.Frag) (mg:Str->Option Value) (base:Heap) (C:Addr) (m:Str) (ps:List Str) (k:Nat) (sp:Sp):Prop where
 ex:∃ (f:Addr) (fd:FuncData),FnOk P w K mg base (L2.CX P w) k f fd ps sp/\Meth K C m f/\Binds K fd ps []/\Cls K C
structure GotI (P:Program) (w:World) (K:PySem.W.Frag) (mg:Str->Option Value) (base:Heap) (x:Str) (C:Addr) (ps:List Str) (k:Nat) (sp:Sp):Prop where
 ex:∃ (f:Addr) (fd:FuncData),FnOk P w K mg base (L2.CX P w) k f fd ps sp/\Mk K C f/\Binds K fd ps []/\mg x=some (.ref C)
section
variable {X:Cx} {C:Addr} {x m:Str} {ps:List Str} {k:Nat} {sp:Sp} {e o:Expr} {es:List Expr} {ta:TE} {t:TA} {p pos apos:Pos} {pl:Sem Bool}
theorem pe_gotM0 (G:GotM X.prog X.w X.K X.mg X.base C m ps k sp) (hr:Room k X.A) (ho:PE X o ta)
  (ht:eval (.Call (.Attribute o m apos) [] [] pos) X.env=(do
    let ov <- eval o X.env
    standAt apos.atName
    let (g,first) <- holding [ov] (getMethod ov m pl)
    callWith pos g first (backTo pos (starEach [] X.env)) (backToKw pos (keywordEach [] X.env))):=by rfl) :
  PE X (.Call (.Attribute o m apos) [] [] pos) (tMethZ C m sp (fun _=>E0) ta tNil):=by
 obtain ⟨f,fd,h1,h2,h3,h4⟩:=G.ex
 exact pe_methZ0 ho h4 h2 h1 hr h3 (fun σ pins H s e s' I c=>pass0 pins σ H s e s' I c) ht
theorem pe_gotMX (G:GotMX X.prog X.w X.K X.mg X.base C m ps k sp) (hr:Room k X.A) (ho:PE X o ta) (ha:PA X (e::es) t)
  (hst:starEach (e::es) X.env=(false,eval e X.env)::starEach es X.env:=by rfl) (hpl:(backTo pos (starEach es X.env)).any (·.1)=false:=by rfl)
  (ht:eval (.Call (.Attribute o m apos) (e::es) [] pos) X.env=(do
    let ov <- eval o X.env
    standAt apos.atName
    let (g,first) <- holding [ov] (getMethod ov m pl)
    callWith pos g first (backTo pos (starEach (e::es) X.env)) (backToKw pos (keywordEach [] X.env))):=by rfl) :
  PE X (.Call (.Attribute o m apos) (e::es) [] pos) (tMethZ C m sp (fun _=>E0) ta t):=by
 obtain ⟨f,fd,h1,h2,h3,h4⟩:=G.ex
 exact pe_methZ ho h4 h2 h1 hr h3 (fun σ pins H s e s' I c=>passL pins σ H s e s' I c) ha hst hpl ht
theorem pe_gotMS {W:WX} (G:GotMX X.prog X.w X.K X.mg X.base C m ps k sp) (hr:Room k X.A) (tk:Takes X W) (ho:PE X o ta) (ha:PA X (e::es) t)
  (hst:starEach (e::es) X.env=(false,eval e X.env)::starEach es X.env:=by rfl) (hpl:(backTo pos (starEach es X.env)).any (·.1)=false:=by rfl)
  (ht:eval (.Call (.Attribute o m apos) (e::es) [] pos) X.env=(do
    let ov <- eval o X.env
    standAt apos.atName
    let (g,first) <- holding [ov] (getMethod ov m pl)
    callWith pos g first (backTo pos (starEach (e::es) X.env)) (backToKw pos (keywordEach [] X.env))):=by rfl) :
  PE X (.Call (.Attribute o m apos) (e::es) [] pos) (tMethZ C m sp (WE W) ta t):=by
 obtain ⟨f,fd,h1,h2,h3,h4⟩:=G.ex
 exact pe_methZ ho h4 h2 h1 hr h3 (fun σ=>passAt tk σ) ha hst hpl ht
theorem pe_gotI (G:GotI X.prog X.w X.K X.mg X.base x C ps k sp) (hr:Room (k+1) X.A) (hg:Gl X x) (ha:PA X (e::es) t) (hdb:(x == ("__debug__":Str))=false:=by decide)
  (he:starEach (e::es) X.env=(false,eval e X.env)::starEach es X.env:=by rfl) (hpl:(backTo pos (starEach es X.env)).any (·.1)=false:=by rfl) :
  PE X (.Call (.Name x p) (e::es) [] pos) (tMakeZ C sp (fun _=>E0) t):=by
 obtain ⟨f,fd,h1,h2,h3,h4⟩:=G.ex
 exact pe_makeZ h2 h1 hr hg h4 h3 (fun σ pins H s e s' I c=>passL pins σ H s e s' I c) ha hdb he hpl
theorem pe_gotIS {W:WX} (G:GotI X.prog X.w X.K X.mg X.base x C ps k sp) (hr:Room (k+1) X.A) (hg:Gl X x) (tk:Takes X W) (ha:PA X (e::es) t) (hdb:(x == ("__debug__":Str))=false:=by decide)
  (he:starEach (e::es) X.env=(false,eval e X.env)::starEach es X.env:=by rfl) (hpl:(backTo pos (starEach es X.env)).any (·.1)=false:=by rfl) :
  PE X (.Call (.Name x p) (e::es) [] pos) (tMakeZ C sp (WE W) t):=by
 obtain ⟨f,fd,h1,h2,h3,h4⟩:=G.ex
 exact pe_makeZ h2 h1 hr hg h4 h3 (fun σ=>passAt tk σ) ha hdb he hpl
end
def spKindI (K:PySem.W.Frag) (C:Addr):Sp:=fun vs H Q _=>∃ (a:Addr) (y:V),vs=[.ref a,y]/\OexC K C/\PySem.W.findIn K (.ref C) "kind"=some none/\H a=some (exo a C none)/\∀ dx,H dx=none->dx ≠ a->Q .non (upd (upd H dx (exd dx [("kind",y)])) a (exo a C (some dx)))
structure OwnI (P:Program) (w:World) (K:PySem.W.Frag) (mg:Str->Option Value) (base:Heap) (x:Str) (C:Addr) (k:Nat):Prop where
 gC:mg x=some (.ref C)
 T:OexC K C
 no:PySem.W.findIn K (.ref C) "kind"=some none
 ex:∃ (f:Addr) (fd:FuncData),PySem.W.findIn K (.ref C) "__init__"=some (some (.ref f))/\PySem.W.typeIn K (.ref f)=some (.type "function")/\FnOk P w K mg base CX0 k f fd ["self","kind"] (spKindI K C)/\Binds K fd ["self","kind"] []
def oexCB (K:PySem.W.Frag) (C:Addr):Bool:=(match K.lookup C with
 | some ⟨.type "type",_,.cls cd,sl⟩=>(match cd.mro,sl.toList with
  | .ref D::bm,[_,_,_,_,some (.builtin n),_]=>decide (D=C)&&(n == "ValueError.__new__"&&(!cd.hasDel&&(cd.hasDict&&PySem.HandSPX.refsVE bm)))
  | _,_=>false)
 | _=>false)&&(He.eqO (PySem.W.findIn K (.ref C) "__setattr__") (some (some (.builtin "object.__setattr__")))&&(decide (PySem.W.subIn K (.ref C) (.type "BaseException")=some true)&&(decide (PySem.W.typeIn K (.ref C)=some (.type "type"))&&PySem.W.keepIn K (.ref C))))
theorem oexCB_ok {K:PySem.W.Frag} {C:Addr} (h:oexCB K C=true):OexC K C:=by
 obtain ⟨h1,h⟩:=He.ba h
 obtain ⟨h2,h⟩:=He.ba h
 obtain ⟨h3,h⟩:=He.ba h
 obtain ⟨h4,h5⟩:=He.ba h
 refine ⟨?_,He.eqO_ok h2,of_decide_eq_true h3,of_decide_eq_true h4,h5⟩
 split at h1
 ·rename_i dd cd sl ho
  split at h1
  ·rename_i D bm k0 k1 k2 k3 n k5 hm hs
   obtain ⟨e1,h1⟩:=He.ba h1
   obtain ⟨e2,h1⟩:=He.ba h1
   obtain ⟨e3,h1⟩:=He.ba h1
   obtain ⟨e4,e5⟩:=He.ba h1
   have e1:=of_decide_eq_true e1
   have e2:=beq_iff_eq.mp e2
   obtain ⟨nm,bs,mro,ns,qn,hd,sn,sb,ab,col,del⟩:=cd
   simp only at hm e3 e4
   subst e1 e2 hm e4
   have e3:del=false:=by simpa using e3
   subst e3
   obtain ⟨sl⟩:=sl
   simp only at hs
   subst hs
   exact ⟨nm,qn,ns,bs,bm,sn,sb,ab,col,dd,k0,k1,k2,k3,k5,ho,e5⟩
  ·cases h1
 ·cases h1
theorem _root_.L2.PE.wide {X:Cx} {e:Expr} {te:TE} (h:PE X e te):PE X e (fun σ H Q=>∃ Q':VK,te σ H Q'/\∀ v H',Q' v H'->Q v H') :=
 ⟨fun pins s σ H Q I ⟨Q',h1,h2⟩=>thn (h.run pins s σ H Q' I h1) fun v s1 ⟨y,H1,I1,r,q⟩=>⟨y,H1,I1,r,h2 _ _ q⟩⟩
section
variable {X:Cx} {C:Addr} {x:Str} {k:Nat} {e:Expr} {te:TE} {p pos:Pos}
def tKind (C:Addr) (te:TE):L2.St->Hp->XK->Prop:=fun σ H Q=>te σ H fun y H1=>∀ d,H1 d=none->Q (.ref C) (some d) (upd H1 d (.xd [("kind",y)]))
theorem pmk_kind (O:OwnI X.prog X.w X.K X.mg X.base x C k) (hr:Room (k+1) X.A) (hg:Gl X x) (he:PE X e te) (hdb:(x == ("__debug__":Str))=false:=by decide)
  (hs:starEach [e] X.env=(false,eval e X.env)::starEach [] X.env:=by rfl) (hpl:(backTo pos (starEach [] X.env)).any (·.1)=false:=by rfl):PMk X (.Call (.Name x p) [e] [] pos) (tKind C te):=by
 obtain ⟨f,fd,h1,h2,h3,h4⟩:=O.ex
 have hw:=pmk_oex (p:=p) O.T h1 h2 h3 hr h4 .nil pass0 hg O.gC (pa_cons (hs:=hs) he.wide pa_nil) hdb hs hpl
 intro pins s σ H Q I h
 refine hw pins s σ H Q I ⟨_,h,fun y H1 q=>?_⟩
 refine ⟨by simp,fun a ha=>⟨a,y,rfl,O.T,O.no,upd_same,fun dx hd ne=>⟨rfl,dx,[("kind",y)],upd_same,?_,?_,?_⟩⟩⟩
 ·rw [upd_ne ne,upd_same]
 ·rw [upd_ne ne] at hd; exact hd
 ·have e:upd (del (upd (upd (upd H1 a (exo a C none)) dx (exd dx [("kind",y)])) a (exo a C (some dx))) a) dx (.xd [("kind",y)])=upd H1 dx (.xd [("kind",y)]):=by
   funext b
   by_cases h1:b=dx
   ·subst h1; rw [upd_same,upd_same]
   ·rw [upd_ne h1,upd_ne h1]
    by_cases h2:b=a
    ·subst h2; rw [del_same,ha]
    ·rw [del_ne h2,upd_ne h2,upd_ne h1,upd_ne h2]
  rw [e]
  rw [upd_ne ne] at hd
  exact q dx hd
end
abbrev Ru:=Gr × Gr
def Ru.enc (r:Ru):PyData:=.tuple [r.1.enc,r.2.enc]
def Ru.within (r:Ru):List (Tr × Int):=r.1.within++r.2.within
structure Kd where
 n:Str
 w:Bool
 rs:List Ru
abbrev Bk:=List Kd
abbrev Bk.names (b:Bk):List Str:=b.map (·.n)
def Kd.rowE (k:Kd):PyData:=.tuple (k.rs.map Ru.enc)
def Bk.get (b:Bk) (n:Str):Option Kd:=b.find? fun k=>decide (k.n=n)
def RuOk (r:Ru):Prop:=r.1.Ok 1000000001/\r.2.Ok 1000000001/\r.1.parts+r.2.parts<=4
def KdOk (ns:List Str) (k:Kd):Prop:=NameOk k.n/\k.rs.length<=4/\∀ r ∈ k.rs,RuOk r/\∀ p ∈ Ru.within r,p.1.1 ∈ ns
structure Bk.Ok (b:Bk):Prop where
 pos:1<=b.length
 len:b.length<=8
 nd:b.names.Nodup
 kd:∀ k ∈ b,KdOk b.names k
theorem Ru.noList_enc (r:Ru):noList (Ru.enc r)=true:=by simp [Ru.enc,noList,noLists,Gr.noList_enc]
theorem Kd.noList_rowE (k:Kd):noList k.rowE=true:=by
 unfold Kd.rowE noList
 induction k.rs with
 | nil=>rfl
 | cons r l ih=>rw [List.map_cons,noLists,Ru.noList_enc,ih]; rfl
theorem Bk.get_some {b:Bk} {n:Str} {k:Kd} (h:b.get n=some k):k ∈ b/\k.n=n :=
 ⟨List.mem_of_find?_eq_some h,of_decide_eq_true (List.find?_some (p:=fun k:Kd=>decide (k.n=n)) h)⟩
theorem Bk.get_none {b:Bk} {n:Str} (h:b.get n=none):n ∉ b.names:=fun z=>by
 obtain ⟨k,hk,e⟩:=List.mem_map.mp z
 have:=List.find?_eq_none.mp h k hk
 exact this (decide_eq_true e)
theorem Bk.get_of {b:Bk} {n:Str} (h:n ∈ b.names):∃ k,b.get n=some k:=by
 cases e:b.get n with
 | none=>exact absurd h (Bk.get_none e)
 | some k=>exact ⟨k,rfl⟩
theorem Bk.get_self {b:Bk} (nd:b.names.Nodup) {k:Kd} (hk:k ∈ b):b.get k.n=some k:=by
 induction b with
 | nil=>cases hk
 | cons x r ih =>
  have nd':(x.n::Bk.names r).Nodup:=nd
  unfold Bk.get
  rcases List.mem_cons.mp hk with e | e
  ·subst e; rw [List.find?_cons_of_pos (by simp)]
  ·have:¬ x.n=k.n:=fun z=>(List.nodup_cons.mp nd').1 (by rw [z]; exact List.mem_map.mpr ⟨k,e,rfl⟩)
   rw [List.find?_cons_of_neg (by simpa using this)]
   exact ih (List.nodup_cons.mp nd').2 e
def Bk.rowKV (b:Bk) (us:List V):List (Key × V):=List.zipWith (fun (k:Kd) (u:V)=>(Sum.inr k.n,u)) b us
def Bk.spKV (b:Bk):List (Key × V):=b.map fun k=>(Sum.inr k.n,V.bl k.w)
theorem Bk.spKV_val (b:Bk) (n:Str):valV b.spKV (Sum.inr n)=(b.get n).map fun k=>V.bl k.w:=by
 induction b with
 | nil=>rfl
 | cons x r ih =>
  by_cases e:x.n=n
  ·subst e
   rw [show Bk.spKV (x::r)=(Sum.inr x.n,V.bl x.w)::Bk.spKV r from rfl,valV_pos rfl]
   simp [Bk.get]
  ·rw [show Bk.spKV (x::r)=(Sum.inr x.n,V.bl x.w)::Bk.spKV r from rfl,valV_neg (by simpa using e),ih]
   simp [Bk.get,e]
theorem Bk.rowKV_val {K:PySem.W.Frag} {H:Hp} (n:Str):∀ {b:Bk} {us:List V},Bears K H Kd.rowE us b->∀ {k:Kd},b.get n=some k->∃ u,valV (b.rowKV us) (Sum.inr n)=some u/\Dp K H u k.rowE
 | [],_,_,k,h=>by cases h
 | x::r,_,.cons (v:=u) (vs:=us) h0 h1,k,h=>by
  have e0:Bk.rowKV (x::r) (u::us)=(Sum.inr x.n,u)::Bk.rowKV r us:=rfl
  by_cases e:x.n=n
  ·subst e
   have:x=k:=by simpa [Bk.get] using h
   subst this
   exact ⟨u,by rw [e0,valV_pos rfl],h0⟩
  ·have h':Bk.get r n=some k:=by simpa [Bk.get,e] using h
   obtain ⟨v,a,c⟩:=Bk.rowKV_val n h1 h'
   exact ⟨v,by rw [e0,valV_neg (by simpa using e)]; exact a,c⟩
abbrev bkF (d1 d2:Addr):List (Str × V):=[("spread_by_name",.ref d1),("rows_by_name",.ref d2)]
def BkA (K:PySem.W.Frag) (C:Addr) (H:Hp) (v:V) (b:Bk):Prop:=∃ (a dx d1 d2:Addr) (us:List V),v=.ref a/\H a=some (.ins C dx (bkF d1 d2))/\H d1=some (.dK b.spKV)/\H d2=some (.dK (b.rowKV us))/\Bears K H Kd.rowE us b
def Lsts (H:Hp) (ps:List Addr):Prop:=∀ p ∈ ps,H p=none\/∃ xs,H p=some (.lst xs)
theorem Lsts.nil {H:Hp}:Lsts H []:=fun _ h=>nomatch h
theorem Lsts.one {H:Hp} {p:Addr} {xs:List V} (h:H p=some (.lst xs)):Lsts H [p]:=fun q z=>by rw [List.mem_singleton.mp z]; exact .inr ⟨xs,h⟩
theorem Lsts.notin {H:Hp} {ps:List Addr} (h:Lsts H ps) {a:Addr} {o:HO} (e:H a=some o) (n:∀ xs,o ≠ .lst xs):a ∉ ps:=fun z=>by
 rcases h a z with q | ⟨xs,q⟩
 ·rw [e] at q; cases q
 ·rw [e] at q; exact n xs (Option.some.inj q)
section
variable {K:PySem.W.Frag} {C:Addr} {H H':Hp} {v:V} {b:Bk} {ps:List Addr}
theorem BkA.sb (h:BkA K C H v b) (e:SB ps H H') (hp:Lsts H ps):BkA K C H' v b:=by
 obtain ⟨a,dx,d1,d2,us,rfl,h1,h2,h3,h4⟩:=h
 exact ⟨a,dx,d1,d2,us,rfl,e.keep _ _ h1 (hp.notin h1 fun _ z=>nomatch z),e.keep _ _ h2 (hp.notin h2 fun _ z=>nomatch z),e.keep _ _ h3 (hp.notin h3 fun _ z=>nomatch z),h4.sb e Kd.noList_rowE⟩
theorem BkA.sb0 (h:BkA K C H v b) (e:SB [] H H'):BkA K C H' v b:=h.sb e Lsts.nil
theorem BkA.at (h:BkA K C H v b):∃ a dx d1 d2,v=.ref a/\H a=some (.ins C dx (bkF d1 d2)):=by
 obtain ⟨a,dx,d1,d2,us,e,h1,_⟩:=h
 exact ⟨a,dx,d1,d2,e,h1⟩
end
structure ClsF (K:PySem.W.Frag) (C:Addr) (fs:List Str):Prop where
 c:Cls K C
 no:∀ f ∈ fs,NoAttr K C f
def spBNames (K:PySem.W.Frag) (C:Addr):Sp:=fun vs H Q _=>∃ (v:V) (b:Bk),vs=[v]/\BkA K C H v b/\b.length<=1000/\∀ (l:Addr) (H':Hp),SB [] H H'->H l=none->H' l=some (.lst (b.names.map V.str))->Q (.ref l) H'
def kindOr (N:Addr) (b:Bk) (n:Str) (H:Hp) (E:XK) (q:Kd->Prop):Prop:=(∀ k,b.get n=some k->q k)/\(b.get n=none->∀ (d:Addr) (H':Hp),SB [] H H'->H d=none->H' d=some (.xd [("kind",.str n)])->E (.ref N) (some d) H')
def spCheckK (K:PySem.W.Frag) (C N:Addr):Sp:=fun vs H Q E=>∃ (v:V) (b:Bk) (n:Str),vs=[v,.str n]/\BkA K C H v b/\b.length<=1000/\kindOr N b n H E fun _=>∀ H',SB [] H H'->Q .non H'
def spBSpreads (K:PySem.W.Frag) (C N:Addr):Sp:=fun vs H Q E=>∃ (v:V) (b:Bk) (n:Str),vs=[v,.str n]/\BkA K C H v b/\b.length<=1000/\kindOr N b n H E fun k=>∀ H',SB [] H H'->Q (.bl k.w) H'
def spBRules (K:PySem.W.Frag) (C N:Addr):Sp:=fun vs H Q E=>∃ (v:V) (b:Bk) (n:Str),vs=[v,.str n]/\BkA K C H v b/\b.length<=1000/\(∀ k ∈ b,k.rs.length<=1000) /\
 kindOr N b n H E fun k=>∀ (l:Addr) (us:List V) (H':Hp),SB [] H H'->H l=none->H' l=some (.lst us)->Bears K H' Ru.enc us k.rs->Q (.ref l) H'
inductive KT where
 | other
 | three (d:PyData) (w:Option Bool) (rs:Option (List PyData))
def Kd.kt (k:Kd):KT:=.three (.str k.n) (some k.w) (some (k.rs.map Ru.enc))
def KTA (K:PySem.W.Frag) (H:Hp) (v:V):KT->Prop
 | .other=>∃ d,Tg K H v d/\∀ ds,d=.tuple ds->ds.length ≠ 3
 | .three d w rs=>∃ (t:Addr) (x y z:V),v=.ref t/\SqT K H t [x,y,z]/\Tg K H x d/\(match w with
   | some b=>y=.bl b
   | none=>∃ n,TyX K H y (.type n)/\kitB n "bool"=some false)/\(match rs with
   | some ds=>∃ (l:Addr) (zs:List V),z=.ref l/\H l=some (.lst zs)/\TgAll K H zs ds
   | none=>∃ n,TyX K H z (.type n)/\kitB n "list"=some false)
def RuD (d:PyData):Prop:=∃ r:Ru,d=Ru.enc r/\RuOk r
def RuFit (d:PyData):Prop:=d.depth<=60/\wide d<=1000/\∀ a b,d=.tuple [a,b]->∀ g:Gr,a=g.enc\/b=g.enc->g.deep<=18/\g.parts<=450
def KTFit:KT->Prop
 | .other=>True
 | .three d w rs=>∀ ds,rs=some ds->ds.length<=1000/\∀ x ∈ ds,RuFit x
def KTKd (t:KT):Prop:=∃ k:Kd,t=k.kt/\NameOk k.n/\k.rs.length<=4/\∀ r ∈ k.rs,RuOk r
def KTBk (ts:List KT):Prop:=∃ b:Bk,ts=b.map Kd.kt/\Bk.Ok b
inductive KTAll (K:PySem.W.Frag) (H:Hp):List V->List KT->Prop
 | nil:KTAll K H [] []
 | cons {v:V} {t:KT} {vs:List V} {ts:List KT}:KTA K H v t->KTAll K H vs ts->KTAll K H (v::vs) (t::ts)
def spIsRule (K:PySem.W.Frag):Sp:=fun vs H Q _=>∃ (v:V) (d:PyData),vs=[v]/\Tg K H v d/\RuFit d/\∀ (b:Bool) (H':Hp),SB [] H H'->(b=true ↔ RuD d)->Q (.bl b) H'
def spIsKind (K:PySem.W.Frag):Sp:=fun vs H Q _=>∃ (v:V) (t:KT),vs=[v]/\KTA K H v t/\KTFit t/\∀ (b:Bool) (H':Hp),SB [] H H'->(b=true ↔ KTKd t)->Q (.bl b) H'
def spIsRuleOf (K:PySem.W.Frag):Sp:=fun vs H Q _=>∃ (v:V) (l:Addr) (r:Ru) (ns:List Str),vs=[v,.ref l]/\Dp K H v (Ru.enc r)/\RuOk r/\SqL K H l (ns.map V.str)/\ns.length<=1000/\∀ H',SB [] H H'->Q (.bl (decide (∀ p ∈ Ru.within r,p.1.1 ∈ ns))) H'
def spAreKinds (K:PySem.W.Frag):Sp:=fun vs H Q _=>∃ (l:Addr) (xs:List V) (ts:List KT),vs=[.ref l]/\SqL K H l xs/\KTAll K H xs ts/\(∀ t ∈ ts,KTFit t)/\ts.length<=1000/\∀ (b:Bool) (H':Hp),SB [] H H'->(b=true ↔ KTBk ts)->Q (.bl b) H'
def spBInit (K:PySem.W.Frag) (C B:Addr):Sp:=fun vs H Q E=>∃ (x dx l:Addr) (xs:List V) (ts:List KT),vs=[.ref x,.ref l]/\H x=some (.ins C dx [])/\H dx=some (.own x)/\H l=some (.lst xs)/\KTAll K H xs ts/\(∀ t ∈ ts,KTFit t)/\ts.length<=1000 /\
 (∀ b:Bk,ts=b.map Kd.kt->b.Ok->∀ H',SB [x] H H'->BkA K C H' (.ref x) b->Q .non H')/\(¬ KTBk ts->∀ H',SB [] H H'->E (.ref B) none H')
theorem inV_strs (n:Str) (zs:List Str):inV (.str n) (zs.map V.str)=decide (n ∈ zs):=by
 induction zs with
 | nil=>rfl
 | cons z r ih =>
  show ((z == n) || inV (.str n) (r.map V.str))=_
  rw [ih]
  by_cases e:z=n
  ·subst e; simp
  ·have e':¬ n=z:=fun y=>e y.symm
   rw [show (z == n)=false from beq_eq_false_iff_ne.mpr e,Bool.false_or]
   by_cases h:n ∈ r <;> simp [h,e']
theorem flat_strs (zs:List Str):(zs.map V.str).all flatV=true:=by simp [flatV]
theorem getK {H:Hp} {d:Addr} {kvs:List (Key × V)} {n:Str} {v:V} (h:H d=some (.dK kvs)) (e:valV kvs (Sum.inr n)=some v):DGet H d (.str n) (some v):=.inl ⟨kvs,Sum.inr n,.inl h,rfl,e.symm⟩
theorem Bk.get_isSome (b:Bk) (n:Str):decide (n ∈ b.names)=(b.get n).isSome:=by
 cases e:b.get n with
 | none=>simpa using Bk.get_none e
 | some k=>simpa using List.mem_map.mpr ⟨k,(Bk.get_some e).1,(Bk.get_some e).2⟩
section
variable {J:It} {n:Nat} {G:Hp->Prop} {Y:Nat->Hp->V->Hp->Prop}
theorem lc_seq (w:Walk J n G Y) {g:TG} {tt:TT} {te:TE} {vs:List Nat} {σ:L2.St} {H:Hp} {D:Addr} {Qd:Hp->Prop} (hD:H D=none) (hn:n < sizeLine) (R:Nat->List V->Hp->Prop) (h0:R 0 [] H) (hG:∀ H2,SB [] H H2->G H2)
  (st:∀ i us H2 H3,SB [D] H2 H3->R i us H2->R i us H3)
  (turn:∀ (Pv:Hp->Prop) i x H2 H' us,i < n->SB [] H H2->Y i H2 x H'->R i us H2->us.length<=i->(∀ y H5,SB [] H2 H5->R (i+1) (us++[y]) H5->∃ acc,H5 D=some (.lst acc)/\acc.length < sizeLine/\Pv (upd H5 D (.lst (acc++[y])))) ->
   (∀ H4,SB [] H2 H4->R (i+1) us H4->Pv H4)->g x (wipe σ vs) H' fun σ2 H3=>wipe σ2 vs=wipe σ vs/\tt σ2 H3 fun b H4 =>
    if b=true then te σ2 H4 fun y H5=>∃ acc,H5 D=some (.lst acc)/\acc.length < sizeLine/\Pv (upd H5 D (.lst (acc++[y]))) else Pv H4)
  (done:∀ us H2,SB [] H H2->H2 D=some (.lst us)->R n us H2->us.length<=n->Qd H2) :
  ∃ W:Nat->Nat->Hp->Prop,(∃ m,W 0 m (upd H D (.lst [])))/\∀ i m H,W i m H ->
   (J.stop i H/\Qd H)\/(J.go i H/\∃ Nx:Hp->Prop,(∀ H',Nx H'->∃ m',m' < m/\W (i+1) m' H')/\∀ x H',J.yld i H x H'->g x (wipe σ vs) H' fun σ2 H2=>wipe σ2 vs=wipe σ vs/\tt σ2 H2 fun b H3 =>
    if b=true then te σ2 H3 fun y H4=>∃ acc,H4 D=some (.lst acc)/\acc.length < sizeLine/\Nx (upd H4 D (.lst (acc++[y]))) else Nx H3):=by
 refine lc_it w (fun i H2=>SB [D] H H2/\∃ us,H2 D=some (.lst us)/\R i us H2/\us.length<=i) ⟨SB.new hD _,[],upd_same,st _ _ _ _ (SB.new hD _) h0,Nat.le_refl _⟩ (fun i H2 _ h=>hG H2 (h.1.drop hD)) (fun i x H2 H' hi h y=>?_) (fun H2 h=>?_)
 ·obtain ⟨s2,us,hD2,hR,hl⟩:=h
  refine turn _ i x H2 H' us hi (s2.drop hD) y hR hl (fun y H5 s5 r5=>?_) (fun H4 s4 r4=>⟨s2.trans s4.nil,us,s4.keep _ _ hD2 nmn,r4,by omega⟩)
  have hD5:=s5.keep _ _ hD2 nmn
  refine ⟨us,hD5,by omega,(s2.trans s5.nil).trans (SB.set hD5 (by simp) _),_,upd_same,st _ _ _ _ (SB.set hD5 (by simp) _) r5,?_⟩
  rw [List.length_append,List.length_singleton]; omega
 ·obtain ⟨s2,us,hD2,hR,hl⟩:=h
  exact done us H2 (s2.drop hD) hD2 hR hl
end
theorem groveD_Ok {C:Int}:∀ {g:Gr},groveD g.enc=true->(∀ p ∈ g.within,p.2 < C)->g.Ok C:=by
 have key:∀ (g:Gr),(∀ p ∈ g.within,p.2 < C)->grPs g.encs=true->(risingD (g.encs.map exp0)=true->g.Ok C):=by
  intro g
  induction g with
  | nil=>intro _ _ _; trivial
  | cons k g m r ihg ihr =>
   intro hb hps hri
   have hb1:∀ p ∈ g.within,p.2 < C:=fun p hp=>hb p (mcm _ (mal _ hp))
   have hb2:∀ p ∈ r.within,p.2 < C:=fun p hp=>hb p (mcm _ (mar _ hp))
   have e:(Gr.cons k g m r).encs=Gr.pEnc ((k,g),m)::r.encs:=rfl
   rw [e,grPs,Bool.and_eq_true] at hps
   rw [e,List.map_cons] at hri
   have hp:grP (.tuple [.tuple [.str k,.tuple g.encs],.int m])=true:=hps.1
   rw [grP,grP2,Bool.and_eq_true,treeD,trD2,Bool.and_eq_true,trD3,Bool.and_eq_true,groveD,Bool.and_eq_true,ladP3,Bool.and_eq_true] at hp
   obtain ⟨⟨hn,⟨hgp,hgr⟩,_⟩,hmm,_⟩:=hp
   have hname:NameOk k:=by
    obtain ⟨z,ez,hz⟩:=nameD_iff hn
    cases ez; exact hz
   have hri2:risingD (r.encs.map exp0)=true:=by
    cases hre:r.encs with
    | nil=>rfl
    | cons d ds =>
     rw [hre,List.map_cons] at hri
     have:(dataLt (exp0 (Gr.pEnc ((k,g),m))) (exp0 d)::ltsD (exp0 d::ds.map exp0)).all id=true:=hri
     rw [List.all_cons,Bool.and_eq_true] at this
     rw [List.map_cons]; exact this.2
   have hro:=ihr hb2 hps.2 hri2
   refine ⟨hname,ihg hb1 hgp hgr,of_decide_eq_true hmm,hb _ (mcs ..),hro,fun p hpm=>?_⟩
   cases r with
   | nil=>cases hpm
   | cons k2 g2 m2 r2 =>
    have h12:dataLt (Gr.tEnc (k,g)) (Gr.tEnc (k2,g2))=true:=by
     have:(dataLt (Gr.tEnc (k,g)) (Gr.tEnc (k2,g2))::ltsD (Gr.tEnc (k2,g2)::r2.encs.map exp0)).all id=true:=hri
     rw [List.all_cons,Bool.and_eq_true] at this
     exact this.1
    rcases List.mem_cons.mp hpm with h | h
    ·subst h; exact h12
    ·exact dl_trans h12 (hro.2.2.2.2.2 p h)
 intro g hg hb
 rw [Gr.enc,groveD,Bool.and_eq_true] at hg
 exact key g hb hg.1 hg.2
theorem Ok_within {C:Int}:∀ {g:Gr},g.Ok C->∀ p ∈ g.within,NameOk p.1.1/\p.1.2.Ok C/\1<=p.2/\p.2 < C
 | .nil,_,p,h=>by cases h
 | .cons k g m r,⟨h0,h1,h2,h3,h4,_⟩,p,h=>by
  rcases List.mem_cons.mp h with h | h
  ·subst h; exact ⟨h0,h1,h2,h3⟩
  ·rcases List.mem_append.mp h with h | h
   ·exact Ok_within h1 p h
   ·exact Ok_within h4 p h
theorem Gr.enc_inj {g h:Gr} (e:g.enc=h.enc):g=h:=by
 have:=Gr.eqv_enc g h
 rw [e,Gr.eqv_enc h h,decide_eq_true rfl] at this
 exact of_decide_eq_true this.symm
theorem RuD_iff {g h:Gr} (hg:groveD g.enc=true) (hh:groveD h.enc=true):RuD (.tuple [g.enc,h.enc]) ↔ g.parts+h.parts<=4/\∀ p ∈ g.within++h.within,p.2<=1000000000:=by
 constructor
 ·rintro ⟨r,e,h1,h2,h3⟩
  have e':PyData.tuple [g.enc,h.enc]=.tuple [r.1.enc,r.2.enc]:=e
  injection e' with e'
  injection e' with a e'
  injection e' with b _
  rw [Gr.enc_inj a,Gr.enc_inj b]
  refine ⟨h3,fun p hp=>?_⟩
  rcases List.mem_append.mp hp with hp | hp
  ·have:=(Ok_within h1 p hp).2.2.2; omega
  ·have:=(Ok_within h2 p hp).2.2.2; omega
 ·rintro ⟨h1,h2⟩
  exact ⟨(g,h),rfl,groveD_Ok hg fun p hp=>by have:=h2 p (mal _ hp); omega,groveD_Ok hh fun p hp=>by have:=h2 p (mar _ hp); omega,h1⟩
theorem RuD_two {d:PyData} (h:RuD d):∃ g k:Gr,d=.tuple [g.enc,k.enc]/\groveD g.enc=true/\groveD k.enc=true:=by
 obtain ⟨r,e,h1,h2,_⟩:=h
 exact ⟨r.1,r.2,e,groveD_ok h1,groveD_ok h2⟩
theorem within_deep:∀ g:Gr,g.deep<=g.parts
 | .nil=>Nat.le_refl _
 | .cons k g m r=>by
  have h1:=within_deep g
  have h2:=within_deep r
  show max (1+g.deep) r.deep<=1+g.parts+r.parts
  omega
theorem RuD_all:∀ {ds:List PyData},(∀ x ∈ ds,RuD x)->∃ rs:List Ru,ds=rs.map Ru.enc/\∀ r ∈ rs,RuOk r
 | [],_=>⟨[],rfl,fun _ h=>nomatch h⟩
 | d::ds,h=>by
  obtain ⟨r,e,hr⟩:=h d (mcs ..)
  obtain ⟨rs,e2,hrs⟩:=RuD_all fun x hx=>h x (mcm _ hx)
  refine ⟨r::rs,by rw [e,e2]; rfl,fun x hx=>?_⟩
  rcases List.mem_cons.mp hx with hx | hx
  ·rw [hx]; exact hr
  ·exact hrs x hx
theorem SqL_ty {K:PySem.W.Frag} {H:Hp} {a:Addr} {xs:List V} (h:SqL K H a xs):TyX K H (.ref a) (.type "list"):=by
 rcases h with (h | ⟨o,h⟩) | ⟨o,its,n,h,c,_⟩
 ·exact .base (.lst h)
 ·exact .base (.frz h)
 ·exact .kList h c
section
variable {K:PySem.W.Frag} {H H':Hp}
theorem KTA_sb (e:SB [] H H'):∀ {t:KT} {v:V},KTA K H v t->KTA K H' v t
 | .other,v,⟨d,h1,h2⟩=>⟨d,Tg_sb e h1,h2⟩
 | .three d w rs,v,⟨t,x,y,z,e0,h1,h2,h3,h4⟩=>by
  refine ⟨t,x,y,z,e0,e.sqT h1,Tg_sb e h2,?_,?_⟩
  ·cases w with
   | some b=>exact h3
   | none =>
    obtain ⟨n,a,b⟩:=h3
    exact ⟨n,TyX_sb e (fun _ _=>nmn) a,b⟩
  ·cases rs with
   | some ds =>
    obtain ⟨l,zs,e1,h5,h6⟩:=h4
    exact ⟨l,zs,e1,e.keep _ _ h5 nmn,TgAll_sb e h6⟩
   | none =>
    obtain ⟨n,a,b⟩:=h4
    exact ⟨n,TyX_sb e (fun _ _=>nmn) a,b⟩
theorem KTAll.sb (e:SB [] H H'):∀ {vs:List V} {ts:List KT},KTAll K H vs ts->KTAll K H' vs ts
 | _,_,.nil=>.nil
 | _,_,.cons h t=>.cons (KTA_sb e h) (KTAll.sb e t)
theorem KTAll.length:∀ {vs:List V} {ts:List KT},KTAll K H vs ts->vs.length=ts.length
 | _,_,.nil=>rfl
 | _,_,.cons h t=>by rw [List.length_cons,List.length_cons,KTAll.length t]
theorem KTAll.get:∀ {vs:List V} {ts:List KT} {i:Nat} {v:V},KTAll K H vs ts->vs[i]?=some v->∃ t,ts[i]?=some t/\KTA K H v t
 | _,_,i,v,.nil,h=>by simp at h
 | _,_,0,v,.cons h t,e=>by simp at e; subst e; exact ⟨_,rfl,h⟩
 | _,_,i+1,v,.cons h t,e=>by
  simp at e
  obtain ⟨t',e',h'⟩:=KTAll.get (i:=i) t e
  exact ⟨t',by simpa using e',h'⟩
theorem KT_all:∀ {ts:List KT},(∀ t ∈ ts,KTKd t)->∃ b:Bk,ts=b.map Kd.kt/\∀ k ∈ b,NameOk k.n/\k.rs.length<=4/\∀ r ∈ k.rs,RuOk r
 | [],_=>⟨[],rfl,fun _ h=>nomatch h⟩
 | t::ts,h=>by
  obtain ⟨k,e,hk⟩:=h t (mcs ..)
  obtain ⟨b,e2,hb⟩:=KT_all fun x hx=>h x (mcm _ hx)
  refine ⟨k::b,by rw [e,e2]; rfl,fun x hx=>?_⟩
  rcases List.mem_cons.mp hx with hx | hx
  ·rw [hx]; exact hk
  ·exact hb x hx
theorem kt_inj {k j:Kd} (e:k.kt=j.kt):k=j:=by
 obtain ⟨n,w,rs⟩:=k
 obtain ⟨n2,w2,rs2⟩:=j
 injection e with e1 e2 e3
 injection e1 with e1
 injection e2 with e2
 injection e3 with e3
 have e3:rs.map Ru.enc=rs2.map Ru.enc:=e3
 have e1:n=n2:=e1
 have e2:w=w2:=e2
 subst e1 e2
 have:rs=rs2:=by
  refine (List.map_inj_right ?_).mp e3
  intro x y h
  have h':PyData.tuple [x.1.enc,x.2.enc]=.tuple [y.1.enc,y.2.enc]:=h
  injection h' with h'
  injection h' with a h'
  injection h' with b _
  exact Prod.ext (Gr.enc_inj a) (Gr.enc_inj b)
 rw [this]
theorem kts_inj {b c:Bk} (e:b.map Kd.kt=c.map Kd.kt):b=c:=(List.map_inj_right (fun _ _=>kt_inj)).mp e
theorem TgAll_rules:∀ {rs:List Ru} {zs:List V},TgAll K H zs (rs.map Ru.enc)->Bears K H Ru.enc zs rs
 | [],_,.nil=>.nil
 | r::rs,_,.cons h t=>by
  refine .cons ?_ (TgAll_rules t)
  cases (h:Tg K H _ (.tuple [r.1.enc,r.2.enc])) with
  | tup hs ha =>
   cases ha with
   | cons h1 ha =>
   cases ha with
   | cons h2 ha =>
   cases ha
   cases h1 with
   | tup a1 b1 =>
   cases h2 with
   | tup a2 b2=>exact .tup hs (.cons (.tup a1 (Tg_ga r.1 b1)) (.cons (.tup a2 (Tg_ga r.2 b2)) .nil))
def KdA (K:PySem.W.Frag) (H:Hp) (bad:List Addr) (v:V) (k:Kd):Prop:=∃ (t l:Addr) (zs:List V),v=.ref t/\SqT K H t [.str k.n,.bl k.w,.ref l]/\H l=some (.lst zs)/\Bears K H Ru.enc zs k.rs/\l ∉ bad
theorem KTA_kd {k:Kd} {v:V} (h:KTA K H v k.kt):KdA K H [] v k:=by
 obtain ⟨t,x,y,z,e0,h1,h2,h3,l,zs,rfl,h5,h6⟩:=h
 have h3:y=.bl k.w:=h3
 subst h3
 cases h2
 exact ⟨t,l,zs,e0,h1,h5,TgAll_rules h6,nmn⟩
def NoLst (H:Hp) (bad ps:List Addr):Prop:=∀ p ∈ ps,p ∈ bad\/∀ xs,H p ≠ some (.lst xs)
theorem NoLst.nil {bad:List Addr}:NoLst H bad []:=fun _ z=>nomatch z
theorem NoLst.self {bad:List Addr}:NoLst H bad bad:=fun _ z=>.inl z
theorem KdA.sb {k:Kd} {v:V} {ps bad:List Addr} (h:KdA K H bad v k) (e:SB ps H H') (n:NoLst H bad ps):KdA K H' bad v k:=by
 obtain ⟨t,l,zs,e0,h1,h2,h3,h4⟩:=h
 exact ⟨t,l,zs,e0,e.sqT h1,e.keep _ _ h2 fun z=>(n _ z).elim h4 fun y=>y _ h2,h3.sb e Ru.noList_enc,h4⟩
inductive KdAll (K:PySem.W.Frag) (H:Hp) (bad:List Addr):List V->Bk->Prop
 | nil:KdAll K H bad [] []
 | cons {v:V} {k:Kd} {vs:List V} {b:Bk}:KdA K H bad v k->KdAll K H bad vs b->KdAll K H bad (v::vs) (k::b)
theorem KdAll.sb {ps bad:List Addr} (e:SB ps H H') (n:NoLst H bad ps):∀ {vs:List V} {b:Bk},KdAll K H bad vs b->KdAll K H' bad vs b
 | _,_,.nil=>.nil
 | _,_,.cons h t=>.cons (h.sb e n) (KdAll.sb e n t)
theorem KdAll.less {bad bad':List Addr} (hb:∀ x ∈ bad',x ∈ bad):∀ {vs:List V} {b:Bk},KdAll K H bad vs b->KdAll K H bad' vs b
 | _,_,.nil=>.nil
 | _,_,.cons ⟨t,l,zs,h1,h2,h3,h4,h5⟩ r=>.cons ⟨t,l,zs,h1,h2,h3,h4,fun z=>h5 (hb l z)⟩ (KdAll.less hb r)
theorem KdAll.append {bad:List Addr}:∀ {xs ys:List V} {bs cs:Bk},KdAll K H bad xs bs->KdAll K H bad ys cs->KdAll K H bad (xs++ys) (bs++cs)
 | _,_,_,_,.nil,h=>h
 | _,_,_,_,.cons a b,h=>.cons a (KdAll.append b h)
theorem KdAll.length {bad:List Addr}:∀ {vs:List V} {ts:Bk},KdAll K H bad vs ts->vs.length=ts.length
 | _,_,.nil=>rfl
 | _,_,.cons h t=>by rw [List.length_cons,List.length_cons,KdAll.length t]
theorem KdAll.get {bad:List Addr}:∀ {vs:List V} {ts:Bk} {i:Nat} {v:V},KdAll K H bad vs ts->vs[i]?=some v->∃ t,ts[i]?=some t/\KdA K H bad v t
 | _,_,i,v,.nil,h=>by simp at h
 | _,_,0,v,.cons h t,e=>by simp at e; subst e; exact ⟨_,rfl,h⟩
 | _,_,i+1,v,.cons h t,e=>by
  simp at e
  obtain ⟨t',e',h'⟩:=KdAll.get (i:=i) t e
  exact ⟨t',by simpa using e',h'⟩
theorem KTAll.kd:∀ {b:Bk} {vs:List V},KTAll K H vs (b.map Kd.kt)->KdAll K H [] vs b
 | [],_,.nil=>.nil
 | k::b,_,.cons h t=>.cons (KTA_kd h) (KTAll.kd t)
theorem rules_TgAll {zs:List V}:∀ {rs:List Ru} {zs:List V},(∀ r ∈ rs,RuOk r)->Bears K H Ru.enc zs rs->TgAll K H zs (rs.map Ru.enc)
 | [],_,_,.nil=>.nil
 | r::rs,_,ok,.cons h t=>by
  refine .cons ?_ (rules_TgAll (zs:=zs) (fun x hx=>ok x (mcm _ hx)) t)
  obtain ⟨o1,o2,_⟩:=ok r (mcs ..)
  cases (h:Dp K H _ (.tuple [r.1.enc,r.2.enc])) with
  | tup hs ha =>
   cases ha with
   | cons h1 ha =>
   cases ha with
   | cons h2 ha =>
   cases ha
   exact .tup hs (.cons (GA_thing o1 h1) (.cons (GA_thing o2 h2) .nil))
theorem KdAll.kt {bad:List Addr}:∀ {b:Bk} {vs:List V},(∀ k ∈ b,NameOk k.n/\∀ r ∈ k.rs,RuOk r)->KdAll K H bad vs b->KTAll K H vs (b.map Kd.kt)
 | [],_,_,.nil=>.nil
 | k::b,_,ok,.cons h t=>by
  refine .cons ?_ (KdAll.kt (fun x hx=>ok x (mcm _ hx)) t)
  obtain ⟨t,l,zs,e0,h1,h2,h3,_⟩:=h
  obtain ⟨o1,o2⟩:=ok k (mcs ..)
  exact ⟨t,_,_,_,e0,h1,.str _ (name_short o1),rfl,l,zs,rfl,h2,rules_TgAll (zs:=zs) o2 h3⟩
theorem RuFit_of {r:Ru} (h:RuOk r):RuFit (Ru.enc r):=by
 obtain ⟨h1,h2,h3⟩:=h
 have d1:=within_deep r.1
 have d2:=within_deep r.2
 have e1:=r.1.encs_depth
 have e2:=r.2.encs_depth
 obtain ⟨w1,w2⟩:=wides_gr r.1
 obtain ⟨w3,w4⟩:=wides_gr r.2
 refine ⟨?_,?_,fun a b e g hg=>?_⟩
 ·show PyData.depth (.tuple [.tuple r.1.encs,.tuple r.2.encs])<=60
  simp only [PyData.depth,PyData.depthAll]; omega
 ·show wide (.tuple [.tuple r.1.encs,.tuple r.2.encs])<=1000
  simp only [wide,wides,List.length_cons,List.length_nil]; omega
 ·have e':PyData.tuple [r.1.enc,r.2.enc]=.tuple [a,b]:=e
  injection e' with e'
  injection e' with ea e'
  injection e' with eb _
  rcases hg with hg | hg
  ·rw [<- ea] at hg; rw [<- Gr.enc_inj hg]; omega
  ·rw [<- eb] at hg; rw [<- Gr.enc_inj hg]; omega
theorem KTFit_of {k:Kd} (h:k.rs.length<=4/\∀ r ∈ k.rs,RuOk r):KTFit k.kt:=by
 intro ds e
 have e:some (k.rs.map Ru.enc)=some ds:=e
 injection e with e
 subst e
 refine ⟨by rw [List.length_map]; omega,fun x hx=>?_⟩
 obtain ⟨r,hr,rfl⟩:=List.mem_map.mp hx
 exact RuFit_of (h.2 r hr)
end
section
variable {J:It} {n:Nat} {G:Hp->Prop} {Y:Nat->Hp->V->Hp->Prop}
theorem dc_seq (w:Walk J n G Y) {g:TG} {tt:TT} {tk tv:TE} {vs:List Nat} {σ:L2.St} {H:Hp} {D:Addr} {Qd:Hp->Prop} (hD:H D=none) (hn:n < sizeLine) (R:Nat->List (Key × V)->Hp->Prop) (h0:R 0 [] H) (hG:∀ H2,SB [] H H2->G H2)
  (st:∀ i us H2 H3,SB [D] H2 H3->R i us H2->R i us H3)
  (turn:∀ (Pv:Hp->Prop) i x H2 H' kvs,i < n->SB [] H H2->Y i H2 x H'->R i kvs H2->kvs.length<=i->(∀ k z H5,SB [] H2 H5->R (i+1) (putK kvs k z) H5->∃ kvs k',kV k=kV k'/\H5 D=some (.dK kvs)/\kvs.length < sizeLine/\Pv (upd H5 D (.dK (putK kvs k' z)))) ->
   (∀ H4,SB [] H2 H4->R (i+1) kvs H4->Pv H4)->g x (wipe σ vs) H' fun σ2 H3=>wipe σ2 vs=wipe σ vs/\tt σ2 H3 fun b H4 =>
    if b=true then tk σ2 H4 fun y H5=>tv σ2 H5 fun z H6=>∃ kvs k,y=kV k/\H6 D=some (.dK kvs)/\kvs.length < sizeLine/\Pv (upd H6 D (.dK (putK kvs k z))) else Pv H4)
  (done:∀ kvs H2,SB [] H H2->H2 D=some (.dK kvs)->R n kvs H2->kvs.length<=n->Qd H2) :
  ∃ W:Nat->Nat->Hp->Prop,(∃ m,W 0 m (upd H D (.dK [])))/\∀ i m H,W i m H ->
   (J.stop i H/\Qd H)\/(J.go i H/\∃ Nx:Hp->Prop,(∀ H',Nx H'->∃ m',m' < m/\W (i+1) m' H')/\∀ x H',J.yld i H x H'->g x (wipe σ vs) H' fun σ2 H2=>wipe σ2 vs=wipe σ vs/\tt σ2 H2 fun b H3 =>
    if b=true then tk σ2 H3 fun y H4=>tv σ2 H4 fun z H5=>∃ kvs k,y=kV k/\H5 D=some (.dK kvs)/\kvs.length < sizeLine/\Nx (upd H5 D (.dK (putK kvs k z))) else Nx H3):=by
 refine lcG (body:=fun Nx x H'=>g x (wipe σ vs) H' fun σ2 H2=>wipe σ2 vs=wipe σ vs/\tt σ2 H2 fun b H3 =>
    if b=true then tk σ2 H3 fun y H4=>tv σ2 H4 fun z H5=>∃ kvs k,y=kV k/\H5 D=some (.dK kvs)/\kvs.length < sizeLine/\Nx (upd H5 D (.dK (putK kvs k z))) else Nx H3) w (fun i H2=>SB [D] H H2/\∃ kvs,H2 D=some (.dK kvs)/\R i kvs H2/\kvs.length<=i)
  ⟨SB.new hD _,[],upd_same,st _ _ _ _ (SB.new hD _) h0,Nat.le_refl _⟩ (fun i H2 _ h=>hG H2 (h.1.drop hD)) (fun i x H2 H' hi h y=>?_) (fun H2 h=>?_)
 ·obtain ⟨s2,kvs,hD2,hR,hl⟩:=h
  refine turn _ i x H2 H' kvs hi (s2.drop hD) y hR hl (fun k z H5 s5 r5=>?_) (fun H4 s4 r4=>⟨s2.trans s4.nil,kvs,s4.keep _ _ hD2 nmn,r4,by omega⟩)
  have hD5:=s5.keep _ _ hD2 nmn
  refine ⟨kvs,k,rfl,hD5,by omega,(s2.trans s5.nil).trans (SB.setD hD5 (by simp) _),_,upd_same,st _ _ _ _ (SB.setD hD5 (by simp) _) r5,?_⟩
  have:=length_putK kvs k z
  omega
 ·obtain ⟨s2,kvs,hD2,hR,hl⟩:=h
  exact done kvs H2 (s2.drop hD) hD2 hR hl
end
theorem putK_new {kvs:List (Key × V)} {k:Key} {v:V} (h:∀ p ∈ kvs,p.1 ≠ k):putK kvs k v=kvs++[(k,v)]:=by
 unfold putK
 rw [if_neg]
 intro z
 obtain ⟨p,hp,e⟩:=List.any_eq_true.mp z
 exact h p hp (of_decide_eq_true e)
theorem Bk.nodup_at {b:Bk} (nd:b.names.Nodup) {i:Nat} {k:Kd} (h:b[i]?=some k):∀ j ∈ b.take i,j.n ≠ k.n:=by
 intro j hj e
 have e1:b.names=(b.take i).map (·.n)++(b.drop i).map (·.n):=by rw [<- List.map_append,List.take_append_drop]
 rw [e1] at nd
 exact (List.nodup_append.mp nd).2.2 j.n (List.mem_map.mpr ⟨j,hj,rfl⟩) k.n (List.mem_map.mpr ⟨k,List.mem_of_getElem? (i:=0) (by rw [List.getElem?_drop]; exact h),rfl⟩) e
theorem SB.setG {H:Hp} {p:Addr} {o:HO} {ps:List Addr} (h:H p=some o) (hp:p ∈ ps) (n1:∀ xs,o ≠ .tup xs) (n2:∀ u v,o ≠ .frz u v) (o':HO):SB ps H (upd H p o'):=by
 refine ⟨fun b u e n=>?_,fun b u e=>?_,fun b v u e=>?_,fun b e=>?_⟩
 ·rw [upd_ne (fun (z:b=p)=>n (by rw [z]; exact hp))]; exact e
 ·rw [upd_ne (fun (z:b=p)=>by subst z; rw [h] at e; exact n1 _ (Option.some.inj e))]; exact e
 ·rw [upd_ne (fun (z:b=p)=>by subst z; rw [h] at e; exact n2 _ _ (Option.some.inj e))]; exact e
 ·by_cases q:b=p
  ·subst q; rw [upd_same] at e; cases e
  ·rw [upd_ne q] at e; exact e
theorem rowKV_mem:∀ {b:Bk} {us:List V} {p:Key × V},p ∈ b.rowKV us->∃ j ∈ b,p.1=Sum.inr j.n
 | [],_,p,h=>by cases h
 | k::b,[],p,h=>by cases h
 | k::b,u::us,p,h=>by
  rcases List.mem_cons.mp (show p ∈ (Sum.inr k.n,u)::Bk.rowKV b us from h) with h | h
  ·exact ⟨k,mcs ..,by rw [h]⟩
  ·obtain ⟨j,hj,e⟩:=rowKV_mem h
   exact ⟨j,mcm _ hj,e⟩
section
variable {J:It} {n:Nat} {G:Hp->Prop} {Y:Nat->Hp->V->Hp->Prop}
theorem lc_seqP (w:Walk J n G Y) (ps:List Addr) {g:TG} {tt:TT} {te:TE} {vs:List Nat} {σ:L2.St} {H:Hp} {D:Addr} {Qd:Hp->Prop} (hD:H D=none) (hps:∀ q ∈ ps,H q ≠ none) (hn:n < sizeLine) (R:Nat->List V->Hp->Prop) (h0:R 0 [] H) (hG:∀ H2,SB ps H H2->G H2)
  (st:∀ i us H2 H3,SB [D] H2 H3->R i us H2->R i us H3)
  (turn:∀ (Pv:Hp->Prop) i x H2 H' us,i < n->SB ps H H2->Y i H2 x H'->R i us H2->us.length<=i->(∀ y H5,SB ps H2 H5->R (i+1) (us++[y]) H5->∃ acc,H5 D=some (.lst acc)/\acc.length < sizeLine/\Pv (upd H5 D (.lst (acc++[y])))) ->
   (∀ H4,SB ps H2 H4->R (i+1) us H4->Pv H4)->g x (wipe σ vs) H' fun σ2 H3=>wipe σ2 vs=wipe σ vs/\tt σ2 H3 fun b H4 =>
    if b=true then te σ2 H4 fun y H5=>∃ acc,H5 D=some (.lst acc)/\acc.length < sizeLine/\Pv (upd H5 D (.lst (acc++[y]))) else Pv H4)
  (done:∀ us H2,SB ps H H2->H2 D=some (.lst us)->R n us H2->us.length<=n->Qd H2) :
  ∃ W:Nat->Nat->Hp->Prop,(∃ m,W 0 m (upd H D (.lst [])))/\∀ i m H,W i m H ->
   (J.stop i H/\Qd H)\/(J.go i H/\∃ Nx:Hp->Prop,(∀ H',Nx H'->∃ m',m' < m/\W (i+1) m' H')/\∀ x H',J.yld i H x H'->g x (wipe σ vs) H' fun σ2 H2=>wipe σ2 vs=wipe σ vs/\tt σ2 H2 fun b H3 =>
    if b=true then te σ2 H3 fun y H4=>∃ acc,H4 D=some (.lst acc)/\acc.length < sizeLine/\Nx (upd H4 D (.lst (acc++[y]))) else Nx H3):=by
 have nD:D ∉ ps:=fun z=>hps D z hD
 have up:∀ {H1 H2:Hp},SB ps H1 H2->SB (D::ps) H1 H2:=fun e=>e.mono fun b hb=>mcm _ hb
 have up1:∀ {H1 H2:Hp},SB [D] H1 H2->SB (D::ps) H1 H2:=fun e=>e.mono fun b hb=>by rw [List.mem_singleton.mp hb]; exact mcs ..
 refine lc_it w (fun i H2=>SB (D::ps) H H2/\∃ us,H2 D=some (.lst us)/\R i us H2/\us.length<=i) ⟨SB.new hD _,[],upd_same,st _ _ _ _ (SB.new hD _) h0,Nat.le_refl _⟩ (fun i H2 _ h=>hG H2 (h.1.drop hD)) (fun i x H2 H' hi h y=>?_) (fun H2 h=>?_)
 ·obtain ⟨s2,us,hD2,hR,hl⟩:=h
  refine turn _ i x H2 H' us hi (s2.drop hD) y hR hl (fun y H5 s5 r5=>?_) (fun H4 s4 r4=>⟨s2.trans (up s4),us,s4.keep _ _ hD2 nD,r4,by omega⟩)
  have hD5:=s5.keep _ _ hD2 nD
  refine ⟨us,hD5,by omega,(s2.trans (up s5)).trans (SB.set hD5 (by simp) _),_,upd_same,st _ _ _ _ (SB.set hD5 (by simp) _) r5,?_⟩
  rw [List.length_append,List.length_singleton]; omega
 ·obtain ⟨s2,us,hD2,hR,hl⟩:=h
  exact done us H2 (s2.drop hD) hD2 hR hl
end
abbrev rJoinS (K:PySem.W.Frag):V->List V->Hp->VK->Prop:=fun x xs H Q=>∃ a p,∃ ys:List Str,x=.str a/\xs=[.ref p]/\(SqL K H p (ys.map V.str)\/SqT K H p (ys.map V.str))/\(ys.map (·.length)).sum+ys.length*a.length<=16777216/\Q (.str (Txt.join a ys)) H
theorem abc_code:∀ r:Nat,r < 26->abc.cps.toList[r]?=some (97+r):=by
 have:∀ r:Fin 26,abc.cps.toList[r.val]?=some (97+r.val):=by decide +kernel
 intro r hr
 exact this ⟨r,hr⟩
theorem Ltr.mid {a b:Str} {n c:Nat} (ha:Ltr a n):(a++⟨#[c]⟩++b).cps.toList[n]?=some c:=by
 have e:(a++⟨#[c]⟩++b).cps.toList=a.cps.toList++(c::b.cps.toList):=by show (a.cps++#[c]++b.cps).toList=_; simp
 rw [e,List.getElem?_append_right (by rw [ha.1]; exact Nat.le_refl _),ha.1,Nat.sub_self]
 rfl
theorem nodup_range {α:Type} {F:Nat->α} {m:Nat} (h:∀ i j,i < m->j < m->i ≠ j->F i ≠ F j):((List.range m).map F).Nodup:=by
 refine List.pairwise_map.mpr (List.Pairwise.imp_of_mem (fun {i j} hi hj hn=>h i j (List.mem_range.mp hi) (List.mem_range.mp hj) hn) List.nodup_range)
section
variable {D:Ends} {σ:L2.St} {H:Hp} {t u:TS} {te:TE} {g:TG} {c:TT}
theorem nextI {f:L2.St->Hp->Prop} {r:VK} {b c':L2.St->Hp->Prop} (h:f σ H):tNext ⟨f,r,b,c'⟩ σ H:=h
theorem seqI (h:t { D with nx:=u D } σ H):tSeq t u D σ H:=h
theorem asgI (h:te σ H fun x H1=>g x σ H1 D.nx):tAsg te g D σ H:=h
theorem ifI (h:c σ H fun b H1=>if b=true then t D σ H1 else u D σ H1):tIfS c t u D σ H:=h
end
theorem names_shaped {zs:List Str} (h:∀ z ∈ zs,NameOk z):SeqAt.shaped (.list (zs.map .str))=true:=by
 have h1:PyData.canLayAll0 (zs.map .str)=true:=by
  induction zs with
  | nil=>simp [PyData.canLayAll0]
  | cons z r ih =>
   rw [List.map_cons,PyData.canLayAll0,ih fun y hy=>h y (mcm _ hy)]
   simp [PyData.canLay0,Gr.strOk_name (h z (mcs ..))]
 have h2:PyData.depthAll (zs.map .str)=0:=by
  clear h1 h
  induction zs with
  | nil=>simp [PyData.depthAll]
  | cons z r ih=>rw [List.map_cons,PyData.depthAll,ih]; simp [PyData.depth]
 unfold SeqAt.shaped
 rw [PyData.canLay0,h1,Bool.true_and]
 exact decide_eq_true (by simp only [PyData.depth,h2]; omega)
theorem eqv_nil (zs:List Str):PyData.eqv (.list (zs.map .str)) (.list [])=decide (zs=[]):=by
 cases zs with
 | nil=>decide +kernel
 | cons z r=>simp [PyData.eqv,PyData.eqvAll]
section
variable {J:It} {n:Nat} {G:Hp->Prop} {Y:Nat->Hp->V->Hp->Prop}
theorem lc_seqQ (w:Walk J n G Y) (ps:List Addr) {g:TG} {tt:TT} {te:TE} {vs:List Nat} {σ:L2.St} {H:Hp} {D:Addr} {Qd:Hp->Prop} (hD:H D=none) (hps:∀ q ∈ ps,H q ≠ none) (hn:n < sizeLine) (R:Nat->List V->Hp->Prop) (h0:R 0 [] H) (hG:∀ H2,SB ps H H2->G H2)
  (st:∀ i us H2 H3,SB [D] H2 H3->R i us H2->R i us H3)
  (turn:∀ (Pv:Hp->Prop) i x H2 H' us,i < n->SB ps H H2->Y i H2 x H'->R i us H2->us.length<=i->H2 D=some (.lst us)->(∀ y H5,SB ps H2 H5->R (i+1) (us++[y]) H5->∃ acc,H5 D=some (.lst acc)/\acc.length < sizeLine/\Pv (upd H5 D (.lst (acc++[y])))) ->
   (∀ H4,SB ps H2 H4->R (i+1) us H4->Pv H4)->g x (wipe σ vs) H' fun σ2 H3=>wipe σ2 vs=wipe σ vs/\tt σ2 H3 fun b H4 =>
    if b=true then te σ2 H4 fun y H5=>∃ acc,H5 D=some (.lst acc)/\acc.length < sizeLine/\Pv (upd H5 D (.lst (acc++[y]))) else Pv H4)
  (done:∀ us H2,SB ps H H2->H2 D=some (.lst us)->R n us H2->us.length<=n->Qd H2) :
  ∃ W:Nat->Nat->Hp->Prop,(∃ m,W 0 m (upd H D (.lst [])))/\∀ i m H,W i m H ->
   (J.stop i H/\Qd H)\/(J.go i H/\∃ Nx:Hp->Prop,(∀ H',Nx H'->∃ m',m' < m/\W (i+1) m' H')/\∀ x H',J.yld i H x H'->g x (wipe σ vs) H' fun σ2 H2=>wipe σ2 vs=wipe σ vs/\tt σ2 H2 fun b H3 =>
    if b=true then te σ2 H3 fun y H4=>∃ acc,H4 D=some (.lst acc)/\acc.length < sizeLine/\Nx (upd H4 D (.lst (acc++[y]))) else Nx H3):=by
 have nD:D ∉ ps:=fun z=>hps D z hD
 have up:∀ {H1 H2:Hp},SB ps H1 H2->SB (D::ps) H1 H2:=fun e=>e.mono fun b hb=>mcm _ hb
 have up1:∀ {H1 H2:Hp},SB [D] H1 H2->SB (D::ps) H1 H2:=fun e=>e.mono fun b hb=>by rw [List.mem_singleton.mp hb]; exact mcs ..
 refine lc_it w (fun i H2=>SB (D::ps) H H2/\∃ us,H2 D=some (.lst us)/\R i us H2/\us.length<=i) ⟨SB.new hD _,[],upd_same,st _ _ _ _ (SB.new hD _) h0,Nat.le_refl _⟩ (fun i H2 _ h=>hG H2 (h.1.drop hD)) (fun i x H2 H' hi h y=>?_) (fun H2 h=>?_)
 ·obtain ⟨s2,us,hD2,hR,hl⟩:=h
  refine turn _ i x H2 H' us hi (s2.drop hD) y hR hl hD2 (fun y H5 s5 r5=>?_) (fun H4 s4 r4=>⟨s2.trans (up s4),us,s4.keep _ _ hD2 nD,r4,by omega⟩)
  have hD5:=s5.keep _ _ hD2 nD
  refine ⟨us,hD5,by omega,(s2.trans (up s5)).trans (SB.set hD5 (by simp) _),_,upd_same,st _ _ _ _ (SB.set hD5 (by simp) _) r5,?_⟩
  rw [List.length_append,List.length_singleton]; omega
 ·obtain ⟨s2,us,hD2,hR,hl⟩:=h
  exact done us H2 (s2.drop hD) hD2 hR hl
end
section
variable {K:PySem.W.Frag} {H H':Hp}
theorem Bears_dp {α:Type} {enc:α->PyData}:∀ {vs:List V} {xs:List α},Bears K H enc vs xs->DpAll K H vs (xs.map enc)
 | _,_,.nil=>.nil
 | _,_,.cons h t=>.cons h (Bears_dp t)
end
theorem depths_le {n:Nat}:∀ {ds:List PyData},(∀ d ∈ ds,d.depth<=n)->PyData.depthAll ds<=n
 | [],_=>by simp [PyData.depthAll]
 | d::ds,h=>by
  have h1:=h d (mcs ..)
  have h2:=depths_le fun x hx=>h x (mcm _ hx)
  rw [PyData.depthAll]; omega
open TL (tl)
theorem seq_via {t rest:TS} {D:Ends} {σ:L2.St} {H:Hp} (R:L2.St->Hp->Prop) (h:∀ nx:L2.St->Hp->Prop,(∀ σ' H',R σ' H'->nx σ' H')->t { D with nx:=nx } σ H) (k:∀ σ' H',R σ' H'->rest D σ' H'):tSeq t rest D σ H:=h (rest D) k
theorem nameI {i:Nat} {v:V} {σ:L2.St} {H:Hp} {f:L2.St->Hp->Prop} {r:VK} {b c:L2.St->Hp->Prop} (h:f (σ.set i (some v)) H):gName i v σ H (Ends.mk f r b c).nx:=h
theorem Bk.Ok.two {b:Bk} (ok:b.Ok):∀ k ∈ b,k.rs.length<=4/\∀ r ∈ k.rs,RuOk r:=fun k hk=>⟨(ok.kd k hk).2.1,fun r hr=>((ok.kd k hk).2.2 r hr).1⟩
theorem Bk.Ok.three {b:Bk} (ok:b.Ok):∀ k ∈ b,NameOk k.n/\∀ r ∈ k.rs,RuOk r:=fun k hk=>⟨(ok.kd k hk).1,(ok.two k hk).2⟩
theorem make_core {K:PySem.W.Frag} {C B:Addr} {b:Bk} {H:Hp} {l:Addr} {xs:List V} {bad:List Addr} {Q:VK} {E:XK} (hl:H l=some (.lst xs)) (ha:KdAll K H bad xs b) (ok:b.Ok) (k:∀ y H',SB [] H H'->H y=none->BkA K C H' (.ref y) b->Q (.ref y) H') :
  ∀ y dx,H y=none->H dx=none->dx ≠ y->spBInit K C B (.ref y::[.ref l]) (upd (upd H dx (.own y)) y (.ins C dx [])) (fun v H2=>v=.non/\Q (.ref y) H2) E:=by
 intro y dx hy hdx hne
 have b8:=ok.len
 have hy':upd H dx (.own y) y=none:=by rw [upd_ne (fun z=>hne z.symm)]; exact hy
 have t4:=(SB.new (ps:=[]) hdx (.own y)).trans (SB.new hy' (.ins C dx []))
 have hdx4:upd (upd H dx (.own y)) y (.ins C dx []) dx=some (.own y):=by rw [upd_ne hne,upd_same]
 have hx4:upd (upd H dx (.own y)) y (.ins C dx []) y=some (.ins C dx []):=upd_same
 refine ⟨y,dx,l,xs,b.map Kd.kt,rfl,hx4,hdx4,t4.keep _ _ hl nmn,(ha.sb t4 NoLst.nil).kt ok.three,fun t ht=>?_,by rw [List.length_map]; omega,fun b' e ok' H5 s5 hbk=>?_,fun z=>absurd ⟨b,rfl,ok⟩ z⟩
 ·obtain ⟨k,hk,rfl⟩:=List.mem_map.mp ht
  exact KTFit_of (ok.two k hk)
 ·have e:=kts_inj e
  subst e
  exact ⟨rfl,k y H5 (((t4.nil (ps:=[y])).trans s5).drop hy) hy hbk⟩
theorem log_lt {x:Int} {a b:Nat} (h:x.natAbs < 2 ^ a) (hb:a<=b) (h0:0 < a):x.natAbs.log2 < b:=by
 by_cases e:x.natAbs=0
 ·rw [e]; simp [Nat.log2_zero]; omega
 ·exact Nat.lt_of_lt_of_le ((Nat.log2_lt e).mpr h) hb
open PySem.Froz (SD sObj TxOk addTx tailTx)
structure TxS (P:Program) (w:World) (D:SD) (l:List Str):Prop where
 ok:TxOk P w D l
 nd:l.Nodup
 ris:Ris D.2.2.place.toList
 led:w.params.followText "set-order"=true\/D.2.2.led=true
def insS (k:Str) (l:List Str):List Str:=if k ∈ l then l else k::l
section
variable {P:Program} {w:World} {A:Around} {E:Value->Shared->Prop} {s:Shared} {D:SD} {l:List Str} {k:Str} {u:Tok} {a:Addr} {T:String}
theorem tail_walk {es:Array (Int × Value)} {ep:Nat} {t:SetTable} {b:Bool} (r:Ris t.place.toList) (d:w.params.followText "set-order"=true\/t.led=true) :
  Ris (tailTx ep es t b).2.2.place.toList/\(w.params.followText "set-order"=true\/(tailTx ep es t b).2.2.led=true):=by
 unfold tailTx
 split
 ·exact ⟨relayAll_ris ..,d.imp id fun z=>by rw [relayAll_led]; exact z⟩
 ·exact ⟨r,d⟩
theorem TxS.add (F:TxS P w D l) (hk:k ∉ l):TxS P w (addTx (hashStr w k) (.str k u) D) (k::l):=by
 obtain ⟨es,ep,t⟩:=D
 have r1:=layNew_ris t es (hashStr w k) (.str k u) F.ris
 have d1:=F.led.imp id fun z=>(layNew_led t es (hashStr w k) (.str k u)).trans z
 have key:∀ t':SetTable,t'.place=(layNew t es (hashStr w k) (.str k u)).2.1.place->t'.led=(layNew t es (hashStr w k) (.str k u)).2.1.led->∀ es' b,Ris (tailTx ep es' t' b).2.2.place.toList/\(w.params.followText "set-order"=true\/(tailTx ep es' t' b).2.2.led=true) :=
  fun t' e1 e2 es' b=>tail_walk (by rw [e1]; exact r1) (by rw [e2]; exact d1)
 have z:=key (if (layNew t es (hashStr w k) (.str k u)).2.1.plain=true then { (layNew t es (hashStr w k) (.str k u)).2.1 with plain:=false } else (layNew t es (hashStr w k) (.str k u)).2.1) (by split <;> rfl) (by split <;> rfl) (layNew t es (hashStr w k) (.str k u)).1 (layNew t es (hashStr w k) (.str k u)).2.2.1
 exact ⟨PySem.Froz.add_ok u F.ok,List.nodup_cons.mpr ⟨hk,F.nd⟩,z.1,z.2⟩
theorem add_there {Q:Bool->Shared->Prop} (ho:s.heap.get? a=some (sObj T D)) (F:TxOk P w D l) (hk:k ∈ l) (hb:l.length < scanBound) (h:Q false s):wpAny (model P w) A (setAddHashed a (.str k u) (hashStr w k)) Q E s:=by
 obtain ⟨es,ep,t⟩:=D
 have hd:(sObj T (es,ep,t)).data=.set es ep t:=rfl
 have hel:ElemsOf (strKind P w) es.toList:=F.el
 have hsz:es.size=l.length:=F.sz
 have is0:(strKind P w).is k (.str k u)=true:=PySem.Froz.is_str k u
 obtain ⟨j,hj⟩:∃ j,List.findIdx? (fun e=>(strKind P w).is k e.2) es.toList=some j:=by
  cases e:List.findIdx? (fun e=>(strKind P w).is k e.2) es.toList with
  | some j=>exact ⟨j,rfl⟩
  | none =>
   obtain ⟨x,hx,hi⟩:=(F.mem k).mp hk
   have:=List.findIdx?_eq_none_iff.mp e x hx
   rw [hi] at this
   cases this
 unfold setAddHashed setAddHashedIn
 refine wpAny_holding (wpAny_bind (wpAny_setState_of ho hd F.fit ?_))
 dsimp only
 rw [byScan_of rfl (by rw [hsz]; exact hb) hel]
 simp only [↓reduceIte]
 unfold setAddByScan
 refine wpAny_bind (wpAny_bind (wpAny_rule (wpAny_bind (wpAny_setScan_of (knd:=strKind P w) (k:=k) is0 ho hd F.fit hel ?_))))
 rw [hj]
 exact wpAny_pure (wpAny_pure h)
theorem add_any {Q:Bool->Shared->Prop} (ho:s.heap.get? a=some (sObj T D)) (F:TxS P w D l) (hb:l.length+1 < scanBound)
  (h:∀ (b:Bool) (h':Heap) (D':SD),Heap.SameBut a s.heap h'->h'.get? a=some (sObj T D')->TxS P w D' (insS k l)->Q b { s with heap:=h' }):wpAny (model P w) A (setAddHashed a (.str k u) (hashStr w k)) Q E s:=by
 by_cases hk:k ∈ l
 ·refine add_there ho F.ok hk (by omega) (h false s.heap D (Heap.SameBut.refl a s.heap) ho ?_)
  unfold insS
  rw [if_pos hk]
  exact F
 ·refine PySem.Froz.add_x ho F.ok hk hb (h true _ _ (Heap.SameBut.update ..) (PySem.Froz.get_upd _ ho rfl) ?_)
  unfold insS
  rw [if_neg hk]
  exact F.add hk
end
section
variable {P:Program} {w:World} {A:Around} {E:Value->Shared->Prop} {s:Shared} {D:SD} {l:List Str} {k:Str} {u:Tok} {a:Addr}
theorem call_add {Q:Value->Shared->Prop} (ho:s.heap.get? a=some (sObj "set" D)) (F:TxS P w D l) (hb:l.length+1 < scanBound)
  (h:∀ (h':Heap) (D':SD),Heap.SameBut a s.heap h'->h'.get? a=some (sObj "set" D')->TxS P w D' (insS k l)->Q .none { s with heap:=h',toks:=s.toks+1 }):wpAny (model P w) A (call (.builtin "set.add") [.ref a,.str k u]) Q E s:=by
 refine wpAny_call_entry PySem.F.slot_set_add ⟨_,ho,rfl⟩ PySem.F.entry_set_add ?_ (PySem.F.args_set_add_2 _ _)
 unfold Builtin.«set.add» Builtin.Frozenset.oneOther
 simp only [List.isEmpty_nil,bind_assoc]
 unfold Builtin.Frozenset.addrOf setAdd
 refine wpAny_bind (wpAny_pure ?_)
 try dsimp only
 refine wpAny_bind (wpAny_pure ?_)
 try dsimp only
 refine wpAny_bind (wpAny_holding (wpAny_bind ((strKind P w).pyHash (k:=k) (PySem.Froz.is_str k u) ?_)))
 refine add_any (s:={ s with toks:=s.toks+1 }) ho F hb fun b h' D' sb o' F'=>?_
 refine (?_:wpAny (model P w) _ (ret Value.none) _ E _)
 exact wpAny_pure ⟨_,rfl,h h' D' sb o' F'⟩
end
def SetSO (P:Program) (w:World) (a:Addr) (l:List Str):HO:=.ext fun h=>∃ D:SD,h.get? a=some (sObj "set" D)/\TxS P w D l
theorem setSO_new {P:Program} {w:World} {H:Hp} {h:Heap} {a:Addr} {l:List Str} {D:SD} (ho:h.get? a=some (sObj "set" D)) (F:TxS P w D l):ObjOk P w H h a (SetSO P w a l) :=
 ⟨⟨D,ho,F⟩,⟨_,ho⟩,fun h1 h2 ⟨D',q,F'⟩ k=>⟨D',k _ q,F'⟩⟩
section
variable {X:Cx} {pins:List (Addr × Obj)} {σ:L2.St} {H:Hp} {s:Shared} {l:List Str}
theorem setSO_get {a:Addr} (I:Inv X pins σ H s) (ha:H a=some (SetSO X.prog X.w a l)):∃ D:SD,s.heap.get? a=some (sObj "set" D)/\TxS X.prog X.w D l:=(I.hok a _ ha).1
theorem addS_ok {E:Value->Shared->Prop} {a:Addr} {k:Str} {u:Tok} {Q:Value->Shared->Prop} (I:Inv X pins σ H s) (ha:H a=some (SetSO X.prog X.w a l)) (room:l.length+1 < scanBound)
  (h:∀ s',Inv X pins σ (upd H a (SetSO X.prog X.w a (insS k l))) s'->Q .none s'):wpAny (model X.prog X.w) X.A (call (.builtin "set.add") [.ref a,.str k u]) Q E s:=by
 obtain ⟨D,ho,F⟩:=setSO_get I ha
 refine call_add ho F room fun h' D' sb o' F'=>?_
 exact h _ (I.write (e:=a) (t':=s.toks+1) (by rw [ha]; trivial) (.inl rfl) (fun b o hb hu=>(sb.2 b hb).trans hu) ⟨_,o'⟩ (setSO_new o' F'))
end
theorem fresh_txs (P:Program) (w:World):TxS P w (#[],0,.fresh 0 0 (!w.params.followText "set-order")) []:=by
 refine ⟨PySem.Froz.TxOk.nil rfl,List.nodup_nil,List.Pairwise.nil,?_⟩
 show _\/(!w.params.followText "set-order")=true
 cases w.params.followText "set-order"
 ·exact .inr rfl
 ·exact .inl rfl
theorem is_shape {P:Program} {w:World} {k:Str} {v:Value} (h:(strKind P w).is k v=true):∃ tk,v=Value.str k tk:=by
 have h:Value.isStrOf k v=true:=h
 cases v <;> simp [Value.isStrOf] at h
 exact ⟨_,by rw [h]⟩
theorem strs_of:∀ (l:List Value),(∀ v ∈ l,∃ k tk,v=Value.str k tk)->∃ ss:List Str,StrsAre l ss/\∀ k,k ∈ ss ↔ ∃ v ∈ l,∃ tk,v=Value.str k tk
 | [],_=>⟨[],.nil,fun k=>by simp⟩
 | v::r,h=>by
  obtain ⟨k,tk,rfl⟩:=h v (mcs ..)
  obtain ⟨ss,h1,h2⟩:=strs_of r fun x hx=>h x (mcm _ hx)
  refine ⟨k::ss,.cons k tk h1,fun j=>?_⟩
  rw [List.mem_cons,h2 j]
  refine ⟨fun z=>?_,fun ⟨x,hx,t',e⟩=>?_⟩
  ·rcases z with rfl | ⟨x,hx,e⟩
   ·exact ⟨_,mcs ..,tk,rfl⟩
   ·exact ⟨x,mcm _ hx,e⟩
  ·rcases List.mem_cons.mp hx with q | q
   ·rw [q] at e; cases e; exact .inl rfl
   ·exact .inr ⟨x,q,t',e⟩
theorem perm_of {α:Type}:∀ {a b:List α},b.Nodup->a.length=b.length->(∀ k,k ∈ b->k ∈ a)->a.Perm b
 | a,[],_,hl,_=>by
  have:a=[]:=List.eq_nil_of_length_eq_zero hl
  rw [this]
 | a,x::b,nd,hl,hm=>by
  obtain ⟨p,q,e⟩:=List.append_of_mem (hm x (mcs ..))
  subst e
  obtain ⟨n1,n2⟩:=List.nodup_cons.mp nd
  have ih:=perm_of (a:=p++q) (b:=b) n2 (by simp at hl ⊢; omega) fun k hk=>by
   have hx:k ≠ x:=fun z=>n1 (z ▸ hk)
   have:=hm k (mcm _ hk)
   simp only [List.mem_append,List.mem_cons] at this ⊢
   rcases this with z | z | z
   ·exact .inl z
   ·exact absurd z hx
   ·exact .inr z
  exact List.perm_middle.trans (ih.cons x)
section
variable {P:Program} {w:World} {A:Around} {E:Value->Shared->Prop} {s:Shared} {D:SD} {l:List Str} {a:Addr}
theorem sorted_txt {Q:Value->Shared->Prop} (hh:A.handled=none) (ho:s.heap.get? a=some (sObj "set" D)) (F:TxS P w D l) (h64:l.length < 64)
  (h:∀ (s':Shared) (p:Addr) (out:Array Value) (c:Nat) (ss:List Str),(∀ b o,s.heap.get? b=some o->s'.heap.get? b=some o)->s'.gens=s.gens->s'.os=s.os->s.heap.objs.size<=p->s'.heap.get? p=some (seqObj "list" out c)->StrsAre out.toList ss->ss.Perm l->sortedS ss=true->Q (.ref p) s') :
  wpAny (model P w) A (call (.builtin "sorted") [.ref a]) Q E s:=by
 obtain ⟨es,ep,t⟩:=D
 have hsz:es.size=l.length:=F.ok.sz
 have hsc:es.size < scanBound:=by rw [hsz]; unfold scanBound; omega
 refine Calls.call_function_entry kind_sorted plain_sorted entry_sorted (args_sorted1 _) ?_
 unfold Builtin.«sorted»
 refine wpAny_bind (m:=checkCount "sorted" 1 1 _) (wpAny_pure ?_)
 refine wpAny_bind (collect_set (A:=A.in1) hh ⟨_,ho,rfl,rfl⟩ F.ok.fit hsc F.ris F.led fun s1 vs k1 z1 g1 o1 pm=>?_)
 have vl:vs.length=l.length:=by rw [pm.length_eq,List.length_map,Array.length_toList,hsz]
 have shape:∀ v ∈ vs,∃ k tk,v=Value.str k tk:=fun v hv=>by
  obtain ⟨e,he,rfl⟩:=List.mem_map.mp (pm.mem_iff.mp hv)
  obtain ⟨⟨k,hk,_⟩,_⟩:=F.ok.el e he
  obtain ⟨tk,q⟩:=is_shape hk
  exact ⟨k,tk,q⟩
 obtain ⟨ss,hS,hmem⟩:=strs_of vs shape
 have hp:ss.Perm l:=by
  refine perm_of F.nd (by rw [<- hS.length]; exact vl) fun k hk=>?_
  obtain ⟨e,he,hi⟩:=(F.ok.mem k).mp hk
  obtain ⟨tk,q⟩:=is_shape hi
  exact (hmem k).mpr ⟨e.2,pm.mem_iff.mpr (List.mem_map_of_mem he),tk,q⟩
 refine wpAny_bind (wpAny_newList ?_ (by rw [vl,sizeLine_eq]; omega))
 have at1:(s1.heap.push (seqObj "list" vs.toArray 0)).get? s1.heap.objs.size=some (seqObj "list" vs.toArray 0):=Heap.get?_push_size _ rfl
 refine wpAny_bind (wpAny_holding (wpAny_call_entry slot_list_sort ⟨_,at1,rfl⟩ entry_list_sort (list_sort_treeK strKind_oneLt at1 hS.keysOf (fun v1 v2 r e=>keyKind_strs (by rw [<- e]; exact hS)) (by rw [vl]; exact h64) fun st' p1 p2=>⟨_,rfl,?_⟩) (args_list_sort _)))
 obtain ⟨ss',q1,q2,q3⟩:=sorted_out_str hS p1 p2
 obtain ⟨c,hc⟩:=sortedHeap_at (vs:=vs) (out:=(arrOf st').map (·.2)) at1
 refine wpAny_pure ⟨_,rfl,h _ s1.heap.objs.size _ c ss' (fun b o e=>?_) g1 o1 z1 hc q1 (q2.trans hp) q3⟩
 have e1:=k1 b o e
 have lt:=Heap.lt_size e1
 show (sortedHeap (s1.heap.push (seqObj "list" vs.toArray 0)) s1.heap.objs.size vs _).get? b=some o
 rw [sortedHeap_old (Nat.ne_of_lt lt) (by rw [size_push']; exact Nat.lt_succ_of_lt lt)]
 exact Heap.get?_push_of_some _ e1
end
section
variable {X:Cx}
def rSortedTx (P:Program) (w:World):List V->Hp->VK->Prop:=fun vs H Q=>∃ (a:Addr) (l:List Str),vs=[.ref a]/\H a=some (SetSO P w a l)/\l.length < 64/\∀ (ss:List Str) (p:Addr),ss.Perm l->sortedS ss=true->H p=none->Q (.ref p) (upd H p (.lst (ss.map V.str)))
theorem cr_sortedTx (hc:X.calm=true):CallR X (.builtin "sorted") (rSortedTx X.prog X.w):=by
 intro pins s σ H vs us Q I r h
 obtain ⟨a,l,rfl,ha,h64,q⟩:=h
 obtain ⟨D,ho,F⟩:=setSO_get I ha
 rw [Vals.ref1 r]
 refine sorted_txt (I.ok.hd hc) ho F h64 fun s' p out c ss kp eg eo hp at' hS pm srt=>?_
 have hn:H p=none:=I.hok.fresh hp
 have hz:(ss.map V.str).length<=sizeLine:=by rw [List.length_map,pm.length_eq,sizeLine_eq]; omega
 obtain ⟨h',g',d',tk',os'⟩:=s'
 have eo:os'=s.os:=eo
 subst eo
 exact ⟨.ref p,upd H p (.lst (ss.map V.str)),I.call (ch:=[]) (Un.laid kp hp hn) (I.hok.laid kp hp ⟨hz,out.toList,c,vals_of_strs hS,at'⟩) (by rw [show g'=s.gens from eg]; exact I.bare) (fun _ z=>nomatch z),rfl,q ss p pm srt hn⟩
end
section
variable {X:Cx}
def tScS (P:Program) (w:World) (wi:TI) (g:TG) (tt:TT) (te:TE) (vs:List Nat):TE:=fun σ H Q=>wi σ H fun J H1=>∀ D,H1 D=none->∃ W:Nat->Nat->Hp->Prop,(∃ m,W 0 m (upd H1 D (SetSO P w D [])))/\∀ i m Hi,W i m Hi ->
 (J.stop i Hi/\Q (.ref D) Hi)\/(J.go i Hi/\∃ Nx:Hp->Prop,(∀ H',Nx H'->∃ m',m' < m/\W (i+1) m' H')/\∀ x H',J.yld i Hi x H'->g x (wipe σ vs) H' fun σ2 H2=>wipe σ2 vs=wipe σ vs/\tt σ2 H2 fun b H3 =>
  if b=true then te σ2 H3 fun y H4=>∃ (z:Str) (l:List Str),y=.str z/\H4 D=some (SetSO P w D l)/\l.length+1 < scanBound/\Nx (upd H4 D (SetSO P w D (insS z l))) else Nx H3)
theorem pe_scS {elt tg iter:Expr} {ifs:List Expr} {scope:Scope} {own:List (PySem.Str × Nat)} {pos:Pos} {wi:TI} {g:TG} {tt:TT} {te:TE} (hc:X.calm=true) (hN:X.N.Nodup) (hi:PI X tg iter wi) (ok:BlkOk X.N X.env.scope scope own)
  (hg:∀ (s1:Shared) (H1:Hp) (C:Addr) (cl:List (PySem.Str × Addr)) (fp:List Addr),L2.PG (X.blk s1 H1 scope (compEnvC scope cl C X.env) fp) tg g) (ht:∀ (s1:Shared) (H1:Hp) (C:Addr) (cl:List (PySem.Str × Addr)) (fp:List Addr),L2.PTs (X.blk s1 H1 scope (compEnvC scope cl C X.env) fp) ifs tt)
  (he:∀ (s1:Shared) (H1:Hp) (C:Addr) (cl:List (PySem.Str × Addr)) (fp:List Addr),L2.PE (X.blk s1 H1 scope (compEnvC scope cl C X.env) fp) elt te) (hs:∀ x,foldedSetIterable iter X.env x=pure x:=by intro _; rfl) :
  PE X (.SetComp elt [⟨tg,iter,ifs,0⟩] scope pos) (tScS X.prog X.w wi g tt te (own.map (·.2))):=by
 refine ⟨fun pins s σ H Q I h=>?_⟩
 rw [PpSet.eval_SetComp]
 have clo:∀ y ∈ scope.names,y.2=.free->∃ c,X.env.cells.lookup y.1=some c:=fun y hy e=>(ok.free y hy e).elim (fun k=>I.ok.has _ (.inl k)) fun k=>I.ok.has _ (.inr k)
 refine wpAny_comprehension_free (use:=none) rfl hs (closure_ok clo) ok.kind (fun y hy e=>by rw [ok.uniq y hy,e]) (thn (hi.run pins s σ H _ I h) fun xv s1 hx=>thn hx fun itv s2 got=>?_)
 obtain ⟨it,fp,tn,J,Ha,e0,Ia,Tn,sta,fpa,walk⟩:=got
 subst e0
 refine PpSet.newSet_ok (newEnv_comp ?_)
 -- the new set,at the heap's end
 generalize eD:s2.heap.objs.size=D
 have freeD:Ha D=none:=Ia.hok.fresh (Nat.le_of_eq eD)
 obtain ⟨W,⟨m0,w0⟩,turn⟩:=walk D freeD
 generalize eb:({ s2 with heap:=s2.heap.push { cls:=.type "set",dict:=none,data:=.set #[] 0 (.fresh 0 0 (!X.w.params.followText "set-order")) } }:Shared)=sb
 have hpb:sb.heap=s2.heap.push { cls:=.type "set",dict:=none,data:=.set #[] 0 (.fresh 0 0 (!X.w.params.followText "set-order")) }:=by rw [<- eb]
 have Ib:Inv X pins σ (upd Ha D (SetSO X.prog X.w D [])) sb:=by
  rw [<- eb]
  refine Ia.laid (t':=s2.toks) (fun b o e=>Heap.get?_push_of_some _ e) (Nat.le_of_eq eD) ?_
  rw [<- eD]
  exact setSO_new (Heap.get?_push_size _ rfl) (fresh_txs X.prog X.w)
 have low:∀ b ∈ fp,b < s2.heap.objs.size:=fun b hb=>let ⟨o,e,_⟩:=Tn.obj _ _ sta b hb; Heap.lt_size e
 have fpb:∀ b ∈ fp,FpOk X pins (upd Ha D (SetSO X.prog X.w D [])) b/\b < sb.heap.objs.size:=fun b hb=>by
  refine ⟨⟨?_,(fpa b hb).2⟩,by rw [hpb,Heap.size_push]; exact Nat.lt_succ_of_lt (low b hb)⟩
  rw [upd_ne (by rw [<- eD]; exact Nat.ne_of_lt (low b hb))]
  exact (fpa b hb).1
 have stb:tn 0 sb.heap:=Tn.keep _ _ _ sta fun b _ o e=>by rw [hpb]; exact Heap.get?_push_of_some _ e
 have Ic:=block_start Ib ok hN fpb
 generalize eHb:upd Ha D (SetSO X.prog X.w D [])=Hb at Ib Ic w0 fpb
 have pg:=hg sb Hb sb.heap.objs.size (cellsFrom (sb.heap.objs.size+1) scope.names (cloFrom X.env.cells scope.names [])) fp
 have pt:=ht sb Hb sb.heap.objs.size (cellsFrom (sb.heap.objs.size+1) scope.names (cloFrom X.env.cells scope.names [])) fp
 have pe:=he sb Hb sb.heap.objs.size (cellsFrom (sb.heap.objs.size+1) scope.names (cloFrom X.env.cells scope.names [])) fp
 show codeAny (model X.prog X.w) X.A (.compStart (.SetComp elt [⟨tg,iter,ifs,0⟩] scope pos) 0 (.ref it) (.ref D) (compEnvC scope (cellsFrom (sb.heap.objs.size+1) scope.names (cloFrom X.env.cells scope.names [])) sb.heap.objs.size X.env)) (compPost (model X.prog X.w) X.A X.xe none (EP X pins σ Q) (.ref D) sb.heap.objs.size) { sb with heap:=pushCells (sb.heap.push { cls:=.type "dict",data:=.dict #[] }) scope.names }
 have noneF:∀ b ∈ fp,Hb b=none:=fun b hb=>(fpb b hb).1.1
 generalize ece:compEnvC scope (cellsFrom (sb.heap.objs.size+1) scope.names (cloFrom X.env.cells scope.names [])) sb.heap.objs.size X.env=ce at Ic pg pt pe ⊢
 have ecl:ce.locals=sb.heap.objs.size:=by subst ece; rfl
 generalize esc:({ sb with heap:=pushCells (sb.heap.push { cls:=.type "dict",data:=.dict #[] }) scope.names }:Shared)=sc at Ic ⊢
 have stc:tn 0 sc.heap:=Tn.keep _ _ _ stb fun b _ o e=>by rw [<- esc]; exact pushCells_keeps _ _ _ _ (Heap.get?_push_of_some _ e)
 -- the block's context
 let XB:Cx:=X.blk sb Hb scope ce fp
 have still:∀ {τ:L2.St} {G:Hp} {t:Shared},Inv XB [] τ G t->(∀ b ∈ fp,G b=none)->∀ b ∈ fp,FpOk XB [] G b:=fun {τ G t} I' hn b hb =>
  ⟨hn b hb,(I'.ok.exf b hb).1,I'.ok.exfs b hb,.inl hb,fun x c e=>(I'.ok.exf b hb).2 x c e,fun p hp=>absurd (show p ∈ ([]:List (Addr × Obj))++[] from hp) (by simp)⟩
 have loop:codeAny (model X.prog X.w) X.A (.compLoop (.SetComp elt [⟨tg,iter,ifs,0⟩] scope pos) 0 (.ref it) (.ref D) ce) (compPost (model X.prog X.w) X.A X.xe none (EP X pins σ Q) (.ref D) sb.heap.objs.size) sc:=by
  refine PpSet.compLoopS_any (fun n t=>∃ i G,Inv XB [] (wipe σ (own.map (·.2))) G t/\tn i t.heap/\(∀ b ∈ fp,G b=none)/\W i n G) ?_ m0 ⟨0,Hb,Ic,stc,noneF,w0⟩
  rintro n t ⟨i,G,It,stt,nt,wt⟩
  rcases turn i n G wt with ⟨ends,qq⟩ | ⟨goes,Nx,hNx,step⟩
  ·refine thnF (Tn.done XB rfl rfl rfl hc i [] t _ G (fun _ _=>False) It (still It nt) stt ends) fun r t6 ⟨er,I6⟩=>?_
   subst er
   have I7:Inv X pins σ G t6:=Ib.call' (ch:=fp) I6.os I6.base I6.hok I6.bare fun b hb=>⟨(fpb b hb).1.2.2.2.1,(fpb b hb).1.2.1,(fpb b hb).1.2.2.2.2.1,(fpb b hb).1.2.2.2.2.2⟩
   have nC:G sb.heap.objs.size=none:=ecl ▸ (show G ce.locals=none from I6.free)
   obtain ⟨m,hn,_⟩:=I6.loc
   have hn:t6.heap.Ns sb.heap.objs.size m:=ecl ▸ (show t6.heap.Ns ce.locals m from hn)
   obtain ⟨f0,f1,f2,f3,f4,f5⟩:=Ib.fpOk (Nat.le_refl _) nC
   exact ⟨m,hn,fun h'' same=>⟨.ref D,G,I7.turned (t':=t6.toks) (fun b o hb e=>(same.2 b hb).trans e) f0 f1 f3 f4 f5,rfl,qq⟩⟩
  ·refine thnF (Tn.item XB rfl rfl rfl hc i [] t _ G (fun _ _=>False) It (still It nt) stt goes) fun r t6 ⟨u,er,h6⟩=>?_
   subst er
   refine thnF h6 fun _ t7 ⟨x,G7,I7,r7,y7,st7,n7⟩=>?_
   have P7:=I7.pinned (still I7 n7) (Tn.obj _ _ st7)
   refine thnF (pg.run _ t7 _ G7 x u _ P7 r7 (step x G7 y7)) fun _ t8 ⟨τ,G8,I8,hw,q8⟩=>?_
   refine thnF (pt.run _ t8 τ G8 _ I8 q8) fun b t9 ⟨G9,I9,q9⟩=>?_
   have back:∀ {t':Shared} {G':Hp},Inv XB ([]++pinsAt fp t7.heap) τ G' t'->Nx G'->∃ m,m < n/\∃ i G,Inv XB [] (wipe σ (own.map (·.2))) G t'/\tn i t'.heap/\(∀ b ∈ fp,G b=none)/\W i m G:=fun {t' G'} I' nx=>by
    obtain ⟨m',hm,w'⟩:=hNx G' nx
    have keep:∀ b ∈ fp,∀ o,t7.heap.get? b=some o->t'.heap.get? b=some o/\G' b=none:=fun b hb o e =>
     have z:=I'.pin (b,o) (mar _ (mar _ (mem_pinsAt hb e)))
     ⟨z.1,z.2.1⟩
    refine ⟨m',hm,i+1,G',(I'.unpinned (pins:=[])).weak (by rw [<- hw,wipe_length]) (fun j v e=>(wipe_some (hw ▸ e)).1),Tn.keep _ _ _ st7 fun b hb o e=>(keep b hb o e).1,fun b hb=>?_,w'⟩
    obtain ⟨o,e,_⟩:=Tn.obj _ _ st7 b hb
    exact (keep b hb o e).2
   cases b with
   | false=>exact back I9 q9
   | true =>
    refine thnF (pe.run _ t9 τ G9 _ I9 q9) fun z t10 ⟨yv,G10,I10,r10,zz,l0,ey,hD10,room,nx⟩=>?_
    subst ey
    obtain ⟨tk,rfl⟩:=r10
    exact addS_ok (X:=XB) I10 hD10 room fun t11 I11=>back I11 nx
 exact PpSet.codeAny_compStart_set loop (Tn.self X.A 0 _ _ _ stc loop)
end
open PySem.Froz (SD sObj TxOk addTx tailTx)
theorem insS_mem {k x:Str} {l:List Str}:k ∈ insS x l ↔ k=x\/k ∈ l:=by
 unfold insS
 split
 ·rename_i h
  exact ⟨.inr,fun z=>z.elim (fun e=>e ▸ h) id⟩
 ·exact List.mem_cons
theorem insS_len (x:Str) (l:List Str):(insS x l).length<=l.length+1:=by
 unfold insS
 split
 ·omega
 ·simp
theorem rising_all:∀ {l:List Str} {p:Str},risingS p l=true->∀ x ∈ l,¬ x.cps.toList < p.cps.toList
 | [],_,_,x,h=>by cases h
 | y::r,p,h,x,hx=>by
  rw [risingS,Bool.and_eq_true,Bool.not_eq_true',ltCps_eq] at h
  have h1:¬ y.cps.toList < p.cps.toList:=of_decide_eq_false h.1
  rcases List.mem_cons.mp hx with e | e
  ·rw [e]; exact h1
  ·exact List.le_trans h1 (rising_all h.2 x e)
theorem sortedS_tail {x:Str} {r:List Str} (h:sortedS (x::r)=true):sortedS r=true:=by
 cases r with
 | nil=>rfl
 | cons y s =>
  have h:risingS x (y::s)=true:=h
  rw [risingS,Bool.and_eq_true] at h
  exact h.2
section
variable {J:It} {n:Nat} {G:Hp->Prop} {Y:Nat->Hp->V->Hp->Prop} {P:Program} {w':World}
theorem SetSO.noTup {a:Addr} {l:List Str}:(∀ xs,SetSO P w' a l ≠ .tup xs)/\∀ u v,SetSO P w' a l ≠ .frz u v:=⟨(fun _ z=>nomatch z),(fun _ _ z=>nomatch z)⟩
theorem sc_seq (w:Walk J n G Y) {g:TG} {tt:TT} {te:TE} {vs:List Nat} {σ:L2.St} {H:Hp} {D:Addr} {Qd:Hp->Prop} (hD:H D=none) (hn:n+1 < scanBound) (R:Nat->List Str->Hp->Prop) (h0:R 0 [] H) (hG:∀ H2,SB [] H H2->G H2)
  (st:∀ i us H2 H3,SB [D] H2 H3->R i us H2->R i us H3)
  (turn:∀ (Pv:Hp->Prop) i x H2 H' us,i < n->SB [] H H2->Y i H2 x H'->R i us H2->us.length<=i->(∀ z H5,SB [] H2 H5->R (i+1) (insS z us) H5->∃ (z':Str) (l:List Str),V.str z=.str z'/\H5 D=some (SetSO P w' D l)/\l.length+1 < scanBound/\Pv (upd H5 D (SetSO P w' D (insS z' l)))) ->
   (∀ H4,SB [] H2 H4->R (i+1) us H4->Pv H4)->g x (wipe σ vs) H' fun σ2 H3=>wipe σ2 vs=wipe σ vs/\tt σ2 H3 fun b H4 =>
    if b=true then te σ2 H4 fun y H5=>∃ (z:Str) (l:List Str),y=.str z/\H5 D=some (SetSO P w' D l)/\l.length+1 < scanBound/\Pv (upd H5 D (SetSO P w' D (insS z l))) else Pv H4)
  (done:∀ us H2,SB [] H H2->H2 D=some (SetSO P w' D us)->R n us H2->us.length<=n->Qd H2) :
  ∃ W:Nat->Nat->Hp->Prop,(∃ m,W 0 m (upd H D (SetSO P w' D [])))/\∀ i m Hi,W i m Hi ->
   (J.stop i Hi/\Qd Hi)\/(J.go i Hi/\∃ Nx:Hp->Prop,(∀ H',Nx H'->∃ m',m' < m/\W (i+1) m' H')/\∀ x H',J.yld i Hi x H'->g x (wipe σ vs) H' fun σ2 H2=>wipe σ2 vs=wipe σ vs/\tt σ2 H2 fun b H3 =>
    if b=true then te σ2 H3 fun y H4=>∃ (z:Str) (l:List Str),y=.str z/\H4 D=some (SetSO P w' D l)/\l.length+1 < scanBound/\Nx (upd H4 D (SetSO P w' D (insS z l))) else Nx H3):=by
 refine lcG (body:=fun Nx x H'=>g x (wipe σ vs) H' fun σ2 H2=>wipe σ2 vs=wipe σ vs/\tt σ2 H2 fun b H3 =>
    if b=true then te σ2 H3 fun y H4=>∃ (z:Str) (l:List Str),y=.str z/\H4 D=some (SetSO P w' D l)/\l.length+1 < scanBound/\Nx (upd H4 D (SetSO P w' D (insS z l))) else Nx H3) w (fun i H2=>SB [D] H H2/\∃ us,H2 D=some (SetSO P w' D us)/\R i us H2/\us.length<=i) ⟨SB.new hD _,[],upd_same,st _ _ _ _ (SB.new hD _) h0,Nat.le_refl _⟩ (fun i H2 _ h=>hG H2 (h.1.drop hD)) (fun i x H2 H' hi h y=>?_) (fun H2 h=>?_)
 ·obtain ⟨s2,us,hD2,hR,hl⟩:=h
  refine turn _ i x H2 H' us hi (s2.drop hD) y hR hl (fun z H5 s5 r5=>?_) (fun H4 s4 r4=>⟨s2.trans s4.nil,us,s4.keep _ _ hD2 nmn,r4,by omega⟩)
  have hD5:=s5.keep _ _ hD2 nmn
  have t6:SB [D] H5 (upd H5 D (SetSO P w' D (insS z us))):=SB.setG hD5 (by simp) SetSO.noTup.1 SetSO.noTup.2 _
  refine ⟨z,us,rfl,hD5,by omega,(s2.trans s5.nil).trans t6,_,upd_same,st _ _ _ _ t6 r5,?_⟩
  have:=insS_len z us
  omega
 ·obtain ⟨s2,us,hD2,hR,hl⟩:=h
  exact done us H2 (s2.drop hD) hD2 hR hl
end
def spRulesN (K:PySem.W.Frag) (C N:Addr):Sp:=fun vs H Q E=>∃ (v:V) (b:Bk) (n:Str),vs=[v,.str n]/\BkA K C H v b/\b.length<=1000/\(∀ k ∈ b,k.rs.length<=1000) /\
 kindOr N b n H E fun k=>∀ (l:Addr) (us:List V) (H':Hp),SB [] H H'->H l=none->H' l=some (.lst us)->Bears K H' Ru.enc us ((.nil,.nil)::k.rs)->Q (.ref l) H'
section
variable {M:Model} {A:Around} {E:Value->Shared->Prop} {s:Shared} {env:Env}
theorem CallK_ {func:Expr} {args:List Expr} {kws:List Keyword} {pos:Pos} {Q:Value->Shared->Prop}
  (h:wpAny M A (eval func env) (fun f s₁=>wpAny M A (callWith pos f [] (backTo pos (starEach args env)) (backToKw pos (keywordEach kws env))) Q E s₁) E s)
  (he:eval (.Call func args kws pos) env=(do callWith pos (<- eval func env) [] (backTo pos (starEach args env)) (backToKw pos (keywordEach kws env))):=by rfl) :
  wpAny M A (eval (.Call func args kws pos) env) Q E s:=by
 rw [he]; exact wpAny_bind h
theorem callWith_typeK {pos:Pos} {T:String} {e:Expr} {rest:List Expr} {kws:List Keyword} {Q:Value->Shared->Prop}
  (h:wpAny M A (spliced (backTo pos (starEach (e::rest) env))) (fun vs s₁=>wpAny M A (evalAll ((backToKw pos (keywordEach kws env)).map (·.2)))
   (fun kvs s₂=>wpAny M A (call (.type T) vs (((backToKw pos (keywordEach kws env)).filterMap (·.1)).zip kvs)) Q E s₂) E s₁) E s)
  (he:starEach (e::rest) env=(false,eval e env)::starEach rest env)
  (hplain:(backTo pos (starEach rest env)).any (·.1)=false)
  (hall:(backToKw pos (keywordEach kws env)).all (·.1.isSome)=true)
  (hkw:(backToKw pos (keywordEach kws env)).any (·.1.isNone)=false) :
  wpAny M A (callWith pos (.type T) [] (backTo pos (starEach (e::rest) env)) (backToKw pos (keywordEach kws env))) Q E s:=by
 rw [he] at h ⊢
 have h2:(backTo pos ((false,eval e env)::starEach rest env)).any (·.1)=false:=by
  show (false || (backTo pos (starEach rest env)).any (·.1))=false
  rw [hplain]; rfl
 have h3:backTo pos ((false,eval e env)::starEach rest env)=(false,eval e env)::backTo pos (starEach rest env):=rfl
 rw [h3] at h h2 ⊢
 unfold callWith
 refine wpAny_bind (wpAny_holding (wpAny_mono (evalArgs_kwB (Q:=fun a s₁=>wpAny M A (call (.type T) ([]++a.pos) a.kw) Q E s₁) hall h) (fun a s₁ h₁=>wpAny_bind (wpAny_standAt ?_)) fun _ _ x=>x))
 simp only [h2,hkw,Bool.or_false]
 refine wpAny_bind (wpAny_pure ?_)
 exact wpAny_bind (wpAny_mono h₁ (fun r s₂ hr=>wpAny_bind (wpAny_holding (wpAny_point (wpAny_pure hr)))) fun _ _ x=>x)
end
def IteS (K:PySem.W.Frag) (a:Addr):It :=
 ⟨fun i H=>∃ (xs:List V) (x:V),SqL K H a xs/\xs[i]?=some x,
  fun i H v H2=>∃ T x,v=.ref T/\H T=none/\H2=upd H T (.tup [.int ((i+1:Nat):Int),x])/\∀ xs,SqL K H a xs->xs[i]?=some x,
  fun i H=>∃ xs:List V,SqL K H a xs/\xs.length=i⟩
theorem turn_enumS {P:Program} {w:World} {K:PySem.W.Frag} {elts:List Expr} {kk:Nat} {tpos:Pos} (a e it:Addr) (hei:e ≠ it) (hai:a ≠ it) (hea:e ≠ a) :
  Turn P w K (.Tuple elts kk tpos) (IteS K a) [e,it] e (fun i h=>(∃ old,IsEnum h e it ((i+1:Nat):Int) old)/\h.IsListIter it a i) where
 mem:=by simp
 obj:=fun i h st b hb=>by
  obtain ⟨⟨old,he⟩,o,ho,hc,hd⟩:=st
  rcases (show b=e\/b=it by simpa using hb) with z | z
  ·rw [z]; exact ⟨_,he,fun v q=>nomatch q⟩
  ·rw [z]; exact ⟨o,ho,fun v q=>by rw [hd] at q; cases q⟩
 keep:=fun i h h2 st k=>let ⟨⟨old,he⟩,hi⟩:=st; ⟨⟨old,k e (by simp) _ he⟩,hi.at fun o q=>k it (by simp) o q⟩
 item:=by
  intro X hP hw hK hc i pins s σ H E I hf st hg
  subst hP hw hK
  obtain ⟨⟨old,he⟩,hit⟩:=st
  obtain ⟨xs,x,hq,hx⟩:=hg
  obtain ⟨its,rv,p,hz⟩:=I.list hq
  obtain ⟨u,hu,ru⟩:=rv.get hx
  have hel:e < s.heap.objs.size:=Heap.lt_size he
  have hil:it < s.heap.objs.size:=by obtain ⟨_,z,_⟩:=hit; exact Heap.lt_size z
  have Dr:=Draws.list (prog:=X.prog) (w:=X.w) (A:=X.A.in1) (I.ok.hd hc) it a hai its.toArray
  have hlt:i < its.toArray.size:=by
   have:=(List.getElem?_eq_some_iff.mp hu).1
   simpa using this
  refine wpAny_pyNext_enum_itemC Dr he ⟨hit,p.isList⟩ hlt hei (by simp [hei,hea]) fun y h2 tk hy ho hst hT hsz hk=>?_
  have hyu:y=u:=by
   have h3:its[i]?=some y:=by simpa using hy
   rw [hu] at h3; exact (Option.some.inj h3).symm
  subst hyu
  refine ⟨_,rfl,wpAny_letOwnedTupleGo_enum (s:={ s with heap:=h2,toks:=tk+1 }) ho fun h3 he3 sb=>?_⟩
  have hT2:h3.get? s.heap.objs.size=some { cls:=.type "tuple",data:=.seq #[.int ((i+1:Nat):Int) tk,y] }:=(sb.2 _ (Nat.ne_of_gt hel)).trans hT
  have nw:ObjOk X.prog X.w (upd H s.heap.objs.size (.tup [.int ((i+1:Nat):Int),x])) h3 s.heap.objs.size (.tup [.int ((i+1:Nat):Int),x]):=⟨by show 2<=sizeLine; decide,[.int ((i+1:Nat):Int) tk,y],.cons ⟨_,rfl⟩ (.cons ru .nil),⟨_,hT2,rfl,_,rfl⟩⟩
  have I1:Inv X pins σ (upd H s.heap.objs.size (.tup [.int ((i+1:Nat):Int),x])) { s with heap:=h3,toks:=tk+1 }:=I.turnedNew (ch:=[e,it]) (fun b ob hb z=>(sb.2 b (fun y=>hb (by simp [y]))).trans (hk b ob (fun y=>hb (by simp [y])) (fun y=>hb (by simp [y])) z)) hf (Nat.le_refl _) nw
  refine ⟨.ref s.heap.objs.size,_,I1,rfl,⟨_,x,rfl,I.hok.fresh (Nat.le_refl _),rfl,fun ys hy=>by rw [I.list_inj hy hq]; exact hx⟩,⟨⟨y,?_⟩,hst.1.at fun o q=>(sb.2 it (Ne.symm hei)).trans q⟩,fun b hb=>?_⟩
  ·rw [show ((i+1+1:Nat):Int)=((i+1:Nat):Int)+1 by omega]; exact he3
  ·have hb2:b < s.heap.objs.size:=by
    rcases (show b=e\/b=it by simpa using hb) with z | z
    ·rw [z]; exact hel
    ·rw [z]; exact hil
   rw [upd_ne (Nat.ne_of_lt hb2)]; exact (hf b hb).1
 done:=by
  intro X hP hw hK hc i pins s σ H E I hf st hg
  subst hP hw hK
  obtain ⟨⟨old,he⟩,hit⟩:=st
  obtain ⟨xs,hq,hx⟩:=hg
  obtain ⟨its,rv,p,hz⟩:=I.list hq
  obtain ⟨f0,f1,f2,f3,f4,f5⟩:=hf it (by simp)
  have hl:=rv.length
  have Dr:=Draws.list (prog:=X.prog) (w:=X.w) (A:=X.A.in1) (I.ok.hd hc) it a hai its.toArray
  have hn:its.toArray.size=i:=by simp; omega
  refine wpAny_pyNext_enum_endD Dr he ⟨by rw [hn]; exact hit,p.isList⟩ fun h2 eb=>⟨rfl,I.turned (t':=s.toks) (fun b o hb z=>eb b o hb z) f0 f1 f3 f4 f5⟩
 self:=fun A i s Q E st h=>let ⟨⟨_,he⟩,_⟩:=st; wpAny_pyIter_enum he h
def iEnumS (K:PySem.W.Frag) (te:TE):TI:=fun σ H R=>te σ H fun v H1=>∃ a xs,v=.ref a/\SqL K H1 a xs/\R (IteS K a) H1
theorem pi_enumS {X:Cx} {ex:Expr} {te:TE} {p pos tpos kp cp:Pos} {elts:List Expr} {kk ck:Nat} (hg:Gl X "enumerate") (hm:X.mg "enumerate"=none) (he:PE X ex te) (hs:starEach [ex] X.env=(false,eval ex X.env)::starEach [] X.env:=by rfl) :
  PI X (.Tuple elts kk tpos) (.Call (.Name "enumerate" p) [ex] [⟨some "start",.Constant (.int 1) ck cp,kp⟩] pos) (iEnumS X.K te):=by
 refine ⟨fun pins s σ H R I h=>?_⟩
 refine CallK_ (ld_blt I hg hm boot_enumerate (callWith_typeK (args_cons (thn (he.run pins s σ H _ I h) fun u s1 ⟨v,H1,I1,r1,q1⟩=>args_nil ?_) hs) hs rfl rfl rfl))
 obtain ⟨a,xs,ev,hq,q⟩:=q1
 subst ev
 cases r1
 refine kws_cons (thn ((pe_int (X:=X) (i:=1) (j:=ck) (pos:=cp)).run pins s1 σ H1 (fun v H2=>v=.int 1/\H2=H1) I1 ⟨rfl,rfl⟩) fun u s2 ⟨v,H2,I2,r2,q2⟩=>kws_nil ?_)
 obtain ⟨rfl,rfl⟩:=q2
 obtain ⟨t,rfl⟩:∃ t,u=.int 1 t:=r2
 obtain ⟨its,rv,pt,hz⟩:=I2.list hq
 have ht:s2.heap.IsList a its.toArray:=pt.isList
 have hal:a < s2.heap.objs.size:=by obtain ⟨_,z,_⟩:=ht; exact Heap.lt_size z
 show wpAny _ _ (call (.type "enumerate") [.ref a] [(Str.ofString "start",.int 1 t)]) _ _ _
 refine enum_begins_start (begins_list a its.toArray) ht (by decide) (by decide) fun h2 he2 hit hsz hk=>wpAny_pyIter_enum he2 ?_
 have I3:Inv X pins σ H2 { s2 with heap:=h2 }:=I2.kept (t':=s2.toks) hk
 refine ⟨s2.heap.objs.size+1,[s2.heap.objs.size+1,s2.heap.objs.size],_,_,H2,rfl,I3,turn_enumS a (s2.heap.objs.size+1) s2.heap.objs.size (Nat.succ_ne_self _) (Nat.ne_of_lt hal) (Nat.ne_of_gt (Nat.lt_succ_of_lt hal)),⟨⟨.none,he2⟩,⟨_,hit,rfl,rfl⟩⟩,fun b hb=>?_,q⟩
 have hle:s2.heap.objs.size<=b:=by
  rcases (show b=s2.heap.objs.size+1\/b=s2.heap.objs.size by simpa using hb) with z | z
  ·rw [z]; exact Nat.le_add_right _ _
  ·rw [z]; exact Nat.le_refl _
 exact I2.fpOk hle (I2.hok.fresh hle)
theorem walk_enumS {K:PySem.W.Frag} {a:Addr} {xs:List V}:Walk (IteS K a) xs.length (fun H=>SqL K H a xs) (YPair (fun i=>some (.int ((i+1:Nat):Int))) (fun i=>xs[i]?)):=by
 refine ⟨fun i _ hi q=>⟨xs,xs[i],q,by simp [hi]⟩,fun _ q=>⟨xs,q,rfl⟩,fun i H v H2 _ q y=>?_⟩
 obtain ⟨T,x,h1,h2,h3,h4⟩:=y
 exact ⟨T,.int ((i+1:Nat):Int),x,h1,h2,h3,rfl,h4 xs q⟩
namespace Gr
def ak:Gr->Nat->List (Pl × Str)
 | .nil,_=>[]
 | .cons k g _ r,i=>(([i],k)::(g.ak 0).map fun x=>(i::x.1,x.2))++r.ak (i+1)
def akP (p:Tr × Int) (i:Nat):List (Pl × Str):=([i],p.1.1)::(p.1.2.ak 0).map fun x=>(i::x.1,x.2)
def aks:List (Tr × Int)->Nat->List (Pl × Str)
 | [],_=>[]
 | p::r,i=>akP p i++aks r (i+1)
theorem ak_ps:∀ (g:Gr) (i:Nat),g.ak i=aks g.ps i
 | .nil,_=>rfl
 | .cons k g m r,i=>by show _++r.ak (i+1)=_++aks r.ps (i+1); rw [ak_ps r]; rfl
theorem aks_append:∀ (as bs:List (Tr × Int)) (i:Nat),aks (as++bs) i=aks as i++aks bs (i+as.length)
 | [],bs,i=>by simp [aks]
 | p::r,bs,i=>by
  show akP p i++aks (r++bs) (i+1)=_
  rw [aks_append r bs (i+1)]
  show _=(akP p i++aks r (i+1))++aks bs (i+(r.length+1))
  rw [List.append_assoc,show i+1+r.length=i+(r.length+1) by omega]
theorem aks_take {bs:List (Tr × Int)} {i:Nat} {p:Tr × Int} (h:bs[i]?=some p):aks (bs.take (i+1)) 0=aks (bs.take i) 0++akP p i:=by
 have hl:i < bs.length:=(List.getElem?_eq_some_iff.mp h).1
 rw [List.take_add_one,h,aks_append,List.length_take,Nat.min_eq_left (by omega),Nat.zero_add]
 show _++(akP p i++[])=_
 rw [List.append_nil]
theorem ak_kinds:∀ (g:Gr) (i:Nat),(g.ak i).map (·.2)=g.within.map (·.1.1)
 | .nil,_=>rfl
 | .cons k g m r,i=>by
  have h1:=ak_kinds g 0
  have h2:=ak_kinds r (i+1)
  show ((([i],k)::(g.ak 0).map fun x=>(i::x.1,x.2))++r.ak (i+1)).map (·.2)=(((k,g),m)::(g.within++r.within)).map (·.1.1)
  rw [List.map_append,List.map_cons,List.map_map,h2,List.map_cons,List.map_append,<- h1]
  rfl
theorem ak_len (g:Gr) (i:Nat):(g.ak i).length=g.parts:=by
 have:=congrArg List.length (ak_kinds g i)
 rw [List.length_map,List.length_map,within_length] at this
 exact this
theorem ak_long:∀ (g:Gr) (i:Nat),∀ x ∈ g.ak i,x.1.length<=g.deep
 | .nil,_,x,h=>by cases h
 | .cons k g m r,i,x,h=>by
  have h1:=ak_long g 0
  have h2:=ak_long r (i+1)
  show x.1.length<=max (1+g.deep) r.deep
  rcases List.mem_append.mp h with h | h
  ·rcases List.mem_cons.mp h with h | h
   ·rw [h]; show 1<=_; omega
   ·obtain ⟨q,hq,rfl⟩:=List.mem_map.mp h
    have:=h1 q hq
    show q.1.length+1<=_; omega
  ·have:=h2 x h; omega
theorem lk_root {a b:Str} {g:Gr} {os:List (Option Int)} (h:os ≠ []):lk (a,g) os=lk (b,g) os:=by
 cases os with
 | nil=>exact absurd rfl h
 | cons o r=>rfl
theorem ak_at {G:Gr}:∀ (g:Gr) (i:Nat),G.ps.drop i=g.ps->∀ x ∈ g.ak i,plO x.1 ≠ []/\∃ t:Tr,lk ("",G) (plO x.1)=some t/\t.1=x.2
 | .nil,_,_,x,h=>by cases h
 | .cons k g m r,i,hd,x,h=>by
  have hd':G.ps.drop i=((k,g),m)::r.ps:=hd
  have hi:G.ps[i]?=some ((k,g),m):=by
   have:=congrArg (·[0]?) hd'
   simpa using this
  have hs:stp G (some ((i:Nat):Int))=some (k,g):=by
   show (if (0:Int)<=((i:Nat):Int) then (G.ps[((i:Nat):Int).toNat]?).map (·.1) else none)=_
   rw [if_pos (by omega),Int.toNat_natCast,hi]; rfl
  rcases List.mem_append.mp h with h | h
  ·rcases List.mem_cons.mp h with h | h
   ·rw [h]
    refine ⟨by simp [plO],(k,g),?_,rfl⟩
    show (stp G (some ((i:Nat):Int))).bind _=_
    rw [hs]; rfl
   ·obtain ⟨q,hq,rfl⟩:=List.mem_map.mp h
    obtain ⟨n1,t,e1,e2⟩:=ak_at (G:=g) g 0 rfl q hq
    refine ⟨by simp [plO],t,?_,e2⟩
    show (stp G (some ((i:Nat):Int))).bind (fun u=>lk u (plO q.1))=_
    rw [hs]
    show lk (k,g) (plO q.1)=some t
    rw [lk_root (b:="") n1,e1]
  ·refine ak_at r (i+1) ?_ x h
   rw [<- List.drop_drop,hd']; rfl
theorem ak_place (g:Gr):∀ x ∈ g.ak 0,plO x.1 ≠ []/\∃ t:Tr,lk ("",g) (plO x.1)=some t/\t.1=x.2:=ak_at g 0 rfl
theorem deep_parts:∀ g:Gr,g.deep<=g.parts
 | .nil=>Nat.le_refl _
 | .cons k g m r=>by
  have h1:=deep_parts g
  have h2:=deep_parts r
  show max (1+g.deep) r.deep<=1+g.parts+r.parts
  omega
end Gr
def spAllP (K:PySem.W.Frag) (n:Nat):Sp:=fun vs H Q _=>∃ (v:V) (g:Gr),vs=[v]/\GA K H v g/\g.deep < n/\g.deep<=100/\g.parts<=1000/\∀ (D:Addr) (us:List V) (H':Hp),SB [] H H'->H D=none->H' D=some (.lst us)->Bears K H' plEnc us ((g.ak 0).map (·.1))->Q (.ref D) H'
structure Sx where
 n:Str
 i:Nat
 wd:Str
 p:Pl
 k:Str
def Sx.st (s:Sx):PyData:=.tuple [.str s.n,.int (s.i:Int),.str s.wd,plEnc s.p]
def Sx.enc (s:Sx):PyData:=.tuple [s.st,.str s.k]
theorem Sx.noList_st (s:Sx):noList s.st=true:=by simp [Sx.st,noList,noLists,pl_noList]
theorem Sx.noList_enc (s:Sx):noList s.enc=true:=by simp [Sx.enc,noList,noLists,Sx.noList_st]
def stG (n:Str) (i:Nat) (wd:Str) (g:Gr):List Sx:=(g.ak 0).map fun x=>⟨n,i,wd,x.1,x.2⟩
def stR (n:Str) (x:Ru × Nat):List Sx:=stG n x.2 "once" x.1.1++stG n x.2 "each" x.1.2
def Kd.steps (k:Kd):List Sx:=(k.rs.zipIdx 1).flatMap (stR k.n)
def ledR (rs:List Ru):List Str:=rs.flatMap fun r=>r.within.map (·.1.1)
theorem stG_kinds (n:Str) (i:Nat) (wd:Str) (g:Gr):(stG n i wd g).map (·.k)=g.within.map (·.1.1):=by
 unfold stG
 rw [List.map_map,<- Gr.ak_kinds g 0]; rfl
theorem stG_len (n:Str) (i:Nat) (wd:Str) (g:Gr):(stG n i wd g).length=g.parts:=by
 unfold stG
 rw [List.length_map,Gr.ak_len]
theorem stR_kinds (n:Str) (x:Ru × Nat):(stR n x).map (·.k)=x.1.within.map (·.1.1):=by
 unfold stR Ru.within
 rw [List.map_append,List.map_append,stG_kinds,stG_kinds]
theorem stR_len (n:Str) (x:Ru × Nat):(stR n x).length=x.1.1.parts+x.1.2.parts:=by
 unfold stR
 rw [List.length_append,stG_len,stG_len]
theorem steps_from (n:Str):∀ (rs:List Ru) (i:Nat),((rs.zipIdx i).flatMap (stR n)).map (·.k)=ledR rs
 | [],_=>rfl
 | r::rs,i=>by
  rw [List.zipIdx_cons,List.flatMap_cons,List.map_append,steps_from n rs (i+1),stR_kinds]
  rfl
theorem Kd.steps_kinds (k:Kd):k.steps.map (·.k)=ledR k.rs:=steps_from _ _ _
theorem stR_le (n:Str):∀ (xs:List (Ru × Nat)),(∀ x ∈ xs,x.1.1.parts+x.1.2.parts<=4)->(xs.flatMap (stR n)).length<=4*xs.length
 | [],_=>Nat.le_refl _
 | x::xs,h=>by
  have h1:=stR_le n xs fun y hy=>h y (mcm _ hy)
  have h2:=h x mcs
  rw [List.flatMap_cons,List.length_append,stR_len,List.length_cons]
  omega
theorem Kd.steps_len {k:Kd} (h4:k.rs.length<=4) (h:∀ r ∈ k.rs,RuOk r):k.steps.length<=16:=by
 have:=stR_le k.n (k.rs.zipIdx 1) fun x hx=>(h x.1 (by
  have:=List.mem_zipIdx hx
  rw [this.2.2]; exact List.getElem_mem _)).2.2
 rw [List.length_zipIdx] at this
 show ((k.rs.zipIdx 1).flatMap (stR k.n)).length<=16
 omega
def spStepsIn (K:PySem.W.Frag):Sp:=fun vs H Q _=>∃ (n wd:Str) (i:Nat) (v:V) (g:Gr),vs=[.str n,.int (i:Int),.str wd,v]/\GA K H v g/\g.deep < 20/\g.parts<=60/\∀ (l:Addr) (us:List V) (H':Hp),SB [] H H'->H l=none->H' l=some (.lst us)->Bears K H' Sx.enc us (stG n i wd g)->Q (.ref l) H'
def spStepsOf (K:PySem.W.Frag) (C N:Addr):Sp:=fun vs H Q E=>∃ (v:V) (b:Bk) (n:Str),vs=[v,.str n]/\BkA K C H v b/\b.Ok /\
 kindOr N b n H E fun k=>∀ (l:Addr) (us:List V) (H':Hp),SB [] H H'->H l=none->H' l=some (.lst us)->Bears K H' Sx.enc us k.steps->Q (.ref l) H'
structure SrtOf (ss ks:List Str):Prop where
 srt:sortedS ss=true
 nd:ss.Nodup
 mem:∀ x,x ∈ ss ↔ x ∈ ks
theorem insS_nodup {x:Str} {l:List Str} (h:l.Nodup):(insS x l).Nodup:=by
 unfold insS
 split
 ·exact h
 ·rename_i hx
  exact List.nodup_cons.mpr ⟨hx,h⟩
theorem SrtOf.perm {ss l ks:List Str} (pm:ss.Perm l) (s:sortedS ss=true) (nd:l.Nodup) (h:∀ x,x ∈ l ↔ x ∈ ks):SrtOf ss ks :=
 ⟨s,pm.nodup_iff.mpr nd,fun x=>pm.mem_iff.trans (h x)⟩
def spLeads (K:PySem.W.Frag) (C N:Addr):Sp:=fun vs H Q E=>∃ (v:V) (b:Bk) (n:Str),vs=[v,.str n]/\BkA K C H v b/\b.Ok /\
 kindOr N b n H E fun k=>∀ (l:Addr) (ss:List Str) (H':Hp),SB [] H H'->H l=none->H' l=some (.lst (ss.map V.str))->SrtOf ss (ledR k.rs)->Q (.ref l) H'
theorem plain_shaped {ds:List PyData} (h:plSs ds=true) (hd:PyData.depthAll ds<=60):SeqAt.shaped (.list ds)=true:=by
 unfold SeqAt.shaped
 rw [PyData.canLay0,plSs_lay _ h,Bool.true_and]
 have:(PyData.list ds).depth=PyData.depthAll ds+1:=by simp [PyData.depth]
 exact decide_eq_true (by omega)
theorem strs_pl:∀ {ss:List Str},(∀ s ∈ ss,NameOk s)->plSs (ss.map PyData.str)=true
 | [],_=>by simp [plSs]
 | s::ss,h=>by
  rw [List.map_cons,plSs,strs_pl fun x hx=>h x (mcm _ hx),plS,Gr.strOk_name (h s mcs)]; rfl
theorem strs_depth (ss:List Str):PyData.depthAll (ss.map PyData.str)=0:=by
 induction ss with
 | nil=>simp [PyData.depthAll]
 | cons s ss ih=>rw [List.map_cons,PyData.depthAll,ih]; simp [PyData.depth]
theorem strs_dp (K:PySem.W.Frag) (H:Hp):∀ ss:List Str,DpAll K H (ss.map V.str) (ss.map PyData.str)
 | []=>.nil
 | s::ss=>.cons (.str _) (strs_dp K H ss)
theorem strs_shaped {ss:List Str} (h:∀ s ∈ ss,NameOk s):SeqAt.shaped (.list (ss.map PyData.str))=true:=plain_shaped (strs_pl h) (by rw [strs_depth]; omega)
theorem Bk.Ok.led {b:Bk} (ok:b.Ok) {k:Kd} (hk:k ∈ b):∀ x ∈ ledR k.rs,x ∈ b.names:=fun x hx=>by
 obtain ⟨r,hr,hx⟩:=List.mem_flatMap.mp hx
 obtain ⟨p,hp,rfl⟩:=List.mem_map.mp hx
 exact ((ok.kd k hk).2.2 r hr).2 p hp
theorem Bk.Ok.names {b:Bk} (ok:b.Ok):∀ x ∈ b.names,NameOk x:=fun x hx=>by
 obtain ⟨k,hk,rfl⟩:=List.mem_map.mp hx
 exact (ok.kd k hk).1
def emptyB (K:PySem.W.Frag) (x:Addr):Bool:=match K.lookup x with
 | some o=>(match o.cls,o.data with
  | .type t,.seq its _=>decide (t="tuple")&&decide (its.toList.length=0)
  | _,_=>false)
 | none=>false
def no2B (K:PySem.W.Frag) (a:Addr):Bool:=match K.lookup a with
 | some o=>(match o.cls,o.data with
  | .type t,.seq its _=>decide (t="tuple")&&(match its.toList with
   | [.ref x,.ref y]=>emptyB K x&&emptyB K y
   | _=>false)
  | _,_=>false)
 | none=>false
theorem emptyB_ok {K:PySem.W.Frag} {x:Addr} (h:emptyB K x=true) (H:Hp):SqT K H x []:=by
 unfold emptyB at h
 split at h
 ·rename_i o ho
  split at h
  ·rename_i t its n hc hd
   rw [Bool.and_eq_true,decide_eq_true_eq,decide_eq_true_eq] at h
   have hz:its.size=0:=by simpa using h.2
   have he:its.toList=[]:=List.length_eq_zero_iff.mp h.2
   refine .inr ⟨o,its,n,ho,by rw [hc,h.1],hd,by rw [hz]; exact Nat.zero_le _,by rw [he]; exact .nil⟩
  ·cases h
 ·cases h
theorem no2B_ok {K:PySem.W.Frag} {a:Addr} (h:no2B K a=true) (H:Hp):Dp K H (.ref a) (Ru.enc (.nil,.nil)):=by
 unfold no2B at h
 split at h
 ·rename_i o ho
  split at h
  ·rename_i t its n hc hd
   rw [Bool.and_eq_true,decide_eq_true_eq] at h
   obtain ⟨h1,h2⟩:=h
   split at h2
   ·rename_i x y he
    rw [Bool.and_eq_true] at h2
    have hz:its.size=2:=by have:=congrArg List.length he; simpa using this
    have hs:SqT K H a [.ref x,.ref y]:=.inr ⟨o,its,n,ho,by rw [hc,h1],hd,by rw [hz]; decide,by rw [he]; exact .cons rfl (.cons rfl .nil)⟩
    exact .tup hs (.cons (.tup (emptyB_ok h2.1 H) .nil) (.cons (.tup (emptyB_ok h2.2 H) .nil) .nil))
   ·cases h2
  ·cases h
 ·cases h
section
variable {σ:L2.St} {H:Hp} {t:TE} {ta tb:TE} {as:TA}
theorem consI {Q:List V->Hp->Prop} (h:t σ H fun x H1=>as σ H1 fun xs H2=>Q (x::xs) H2):tCons t as σ H Q:=h
end
section
variable {X:Cx}
theorem ps_setDc {i:Nat} {y:PySem.Str} {py:Pos} {kx vx tg iter:Expr} {ifs:List Expr} {scope:Scope} {own:List (PySem.Str × Nat)} {pos spos:Pos} {wi:TI} {g:TG} {tt:TT} {tk tv:TE} (hc:X.calm=true) (hN:X.N.Nodup) (hy:X.N[i]?=some y) (hyl:X.env.scope.names.lookup y=some .local)
  (hsw:swapsWith (.DictComp kx vx [⟨tg,iter,ifs,0⟩] scope pos) (some (.Name y py)) spos.line X.env=pure true) (hi:PI X tg iter wi) (ok:BlkOk X.N X.env.scope scope own)
  (hg:∀ (s:Shared) (H:Hp) (C:Addr) (cl:List (PySem.Str × Addr)) (fp:List Addr),L2.PG (X.blk s H scope (compEnvC scope cl C X.env) fp) tg g) (ht:∀ (s:Shared) (H:Hp) (C:Addr) (cl:List (PySem.Str × Addr)) (fp:List Addr),L2.PTs (X.blk s H scope (compEnvC scope cl C X.env) fp) ifs tt)
  (hk:∀ (s:Shared) (H:Hp) (C:Addr) (cl:List (PySem.Str × Addr)) (fp:List Addr),L2.PE (X.blk s H scope (compEnvC scope cl C X.env) fp) kx tk)
  (he:∀ (s:Shared) (H:Hp) (C:Addr) (cl:List (PySem.Str × Addr)) (fp:List Addr),L2.PE (X.blk s H scope (compEnvC scope cl C X.env) fp) vx tv) (hs:∀ x,foldedSetIterable iter X.env x=pure x:=by intro _; rfl) :
  PS X (.Assign [.Name y py] (.DictComp kx vx [⟨tg,iter,ifs,0⟩] scope pos) spos) (tAsg (tDc wi g tt tk tv (own.map (·.2))) (gName i)):=by
 refine ⟨fun pins s σ H D I h=>?_⟩
 rw [exec_Assign_Name_used _ _ _ _ hsw]
 refine wpAny_bind (wpAny_standAt (wpAny_bind ?_))
 show wpAny _ X.A (do let _ <- comprehension (.DictComp kx vx [⟨tg,iter,ifs,0⟩] scope pos) scope X.env (firstIterPos [⟨tg,iter,ifs,0⟩] pos) newDict false (eval iter X.env) (some (assign (.Name y py) X.env))) _ _ s
 have h:tDc wi g tt tk tv (own.map (·.2)) σ H (fun x H1=>gName i x σ H1 D.nx):=h
 refine wpAny_bind (thn (dc_core (Qf:=fun _ s'=>SP X pins D .next s') hc hN I hi ok hg ht hk he hs h fun L C s' m H' I' q hn f=>?_) fun _ s' hq=>wpAny_pure (wpAny_pure hq))
 show wpAny _ _ (assign (.Name y py) X.env (.ref L)) _ _ _
 refine wpAny_assign_Name (store_ok2 (v:=V.ref L) I' hN hy (.inl hyl) rfl (fun s2 I2 ⟨a,sb,ha⟩=>?_) (.inr hyl))
 obtain ⟨f0,f1,f2,f3,f4,f5⟩:=f
 have haC:C ≠ a:=by
  rcases ha with z | z
  ·rw [z]; exact f1
  ·exact fun e=>f4 y a z e.symm
 refine ⟨m,hn.sameBut sb haC,fun h3 sb3=>?_⟩
 exact ⟨_,H',I2.turned (t':=s2.toks) (fun b o hb e=>(sb3.2 b hb).trans e) f0 f1 f3 f4 f5,q⟩
theorem sw_trueD {kx vx:Expr} {gs:List Comprehension} {scope:Scope} {pos py:Pos} {y:PySem.Str} {l:Nat} {env:Env} (hk:env.scope.kind=.function) (hy:env.scope.names.lookup y=some .local) (hl:(py.line == pos.line)=true)
  (ha:(scope.names.any fun (n,k)=>n == y&&(k == .local || k == .cell))=false):swapsWith (.DictComp kx vx gs scope pos) (some (.Name y py)) l env=pure true:=by
 have ky:env.kindOf y=some .local:=hy
 have hb:env.blockKind=.function:=by unfold Env.blockKind; rw [hk]; rfl
 unfold swapsWith
 simp only [hb,ky,ha,Expr.pos,hl]
 rfl
end
def adj (b:Bk) (n:Str):List Str:=match b.get n with
 | some k=>ledR k.rs
 | none=>[]
inductive EndK (b:Bk):Str->Prop
 | mk {n:Str}:(∀ k,k ∈ adj b n->EndK b k)->EndK b n
inductive Rch (b:Bk):Str->Str->Prop
 | one {n k:Str}:k ∈ adj b n->Rch b n k
 | step {n m k:Str}:Rch b n m->k ∈ adj b m->Rch b n k
section
variable {b:Bk}
theorem adj_get {n:Str} {k:Kd} (h:b.get n=some k):adj b n=ledR k.rs:=by unfold adj; rw [h]
theorem adj_names (ok:b.Ok) {n k:Str} (h:k ∈ adj b n):k ∈ b.names:=by
 unfold adj at h
 split at h
 ·rename_i kd e
  exact ok.led (Bk.get_some e).1 k h
 ·cases h
theorem adj_self {k:Kd} (ok:b.Ok) (hk:k ∈ b):adj b k.n=ledR k.rs:=adj_get (Bk.get_self ok.nd hk)
theorem Rch.trans {n m k:Str} (h:Rch b n m) (g:Rch b m k):Rch b n k:=by
 induction g with
 | one e=>exact .step h e
 | step _ e ih=>exact .step ih e
theorem Rch.cons {n m k:Str} (h:m ∈ adj b n) (g:Rch b m k):Rch b n k:=(Rch.one h).trans g
theorem Rch.split {n k:Str} (h:Rch b n k):∃ m,m ∈ adj b n/\(m=k\/Rch b m k):=by
 induction h with
 | one e=>exact ⟨_,e,.inl rfl⟩
 | step _ e ih =>
  obtain ⟨m,hm,h⟩:=ih
  refine ⟨m,hm,.inr ?_⟩
  rcases h with h | h
  ·rw [h]; exact .one e
  ·exact .step h e
theorem EndK.next {n k:Str} (h:EndK b n) (e:k ∈ adj b n):EndK b k:=by
 cases h with
 | mk h=>exact h k e
theorem EndK.noring {n:Str} (h:EndK b n):¬ Rch b n n:=by
 induction h with
 | mk h ih =>
  intro g
  obtain ⟨m,hm,e⟩:=g.split
  refine ih m hm ?_
  rcases e with e | e
  ·rw [e]; exact g
  ·exact .step e hm
end
inductive LedAll (K:PySem.W.Frag) (H:Hp):List (Key × V)->Bk->Prop
 | nil:LedAll K H [] []
 | cons {l:Addr} {ss:List Str} {k:Kd} {kvs:List (Key × V)} {b:Bk}:H l=some (.lst (ss.map V.str))->SrtOf ss (ledR k.rs)->LedAll K H kvs b->LedAll K H ((Sum.inr k.n,.ref l)::kvs) (k::b)
section
variable {K:PySem.W.Frag} {H H':Hp}
theorem LedAll.length:∀ {kvs:List (Key × V)} {b:Bk},LedAll K H kvs b->kvs.length=b.length
 | _,_,.nil=>rfl
 | _,_,.cons _ _ t=>congrArg (·+1) t.length
theorem LedAll.keep (h:∀ l xs,H l=some (.lst xs)->H' l=some (.lst xs)):∀ {kvs:List (Key × V)} {b:Bk},LedAll K H kvs b->LedAll K H' kvs b
 | _,_,.nil=>.nil
 | _,_,.cons a s t=>.cons (h _ _ a) s (LedAll.keep h t)
theorem LedAll.append:∀ {kvs kws:List (Key × V)} {b c:Bk},LedAll K H kvs b->LedAll K H kws c->LedAll K H (kvs++kws) (b++c)
 | _,_,_,_,.nil,h=>h
 | _,_,_,_,.cons a s t,h=>.cons a s (t.append h)
theorem LedAll.val {n:Str} {k:Kd}:∀ {kvs:List (Key × V)} {b:Bk},LedAll K H kvs b->b.get n=some k->∃ l ss,valV kvs (Sum.inr n)=some (.ref l)/\H l=some (.lst (ss.map V.str))/\SrtOf ss (ledR k.rs)
 | _,_,.nil,e=>by simp [Bk.get] at e
 | _,_,.cons (l:=l) (ss:=ss) (k:=kk) (b:=bb) a s t,e=>by
  by_cases h:kk.n=n
  ·have e':kk=k:=by
    have:Bk.get (kk::bb) n=some kk:=by simp [Bk.get,h]
    rw [this] at e; exact Option.some.inj e
   subst e'
   exact ⟨l,ss,valV_pos (by rw [h]),a,s⟩
  ·have e':Bk.get bb n=some k:=by
    unfold Bk.get at e
    rw [List.find?_cons_of_neg (by simpa using h)] at e
    exact e
   obtain ⟨l',ss',h1,h2,h3⟩:=t.val e'
   exact ⟨l',ss',by rw [valV_neg (fun z=>h (Sum.inr.inj z))]; exact h1,h2,h3⟩
theorem LedAll.get:∀ {kvs:List (Key × V)} {b:Bk} {i:Nat} {p:Key × V},LedAll K H kvs b->kvs[i]?=some p->∃ k,b[i]?=some k/\p.1=Sum.inr k.n
 | _,_,_,_,.nil,e=>by simp at e
 | _,_,0,_,.cons a s t,e=>by
  obtain rfl:=Option.some.inj e
  exact ⟨_,rfl,rfl⟩
 | _,_,i+1,_,.cons a s t,e=>t.get (i:=i) e
end
def into (b:Bk) (es:List Str) (n:Str):Bool:=decide (n ∉ es)&&(adj b n).all fun k=>decide (k ∈ es)
def spLeadInto (K:PySem.W.Frag):Sp:=fun vs H Q _=>∃ (d e:Addr) (b:Bk) (es:List Str) (kvs:List (Key × V)),vs=[.ref d,.ref e]/\H d=some (.dK kvs)/\LedAll K H kvs b/\H e=some (.lst (es.map V.str))/\b.Ok/\∀ (l:Addr) (H':Hp),SB [] H H'->H l=none->H' l=some (.lst ((b.names.filter (into b es)).map V.str))->Q (.ref l) H'
def spEndless (K:PySem.W.Frag) (C N:Addr):Sp:=fun vs H Q E=>∃ (v:V) (b:Bk),vs=[v]/\BkA K C H v b/\b.Ok/\∀ (l:Addr) (ss:List Str) (H':Hp),SB [] H H'->H l=none->H' l=some (.lst (ss.map V.str))->sortedS ss=true->ss.Nodup->(∀ n,n ∈ ss ↔ n ∈ b.names/\¬ EndK b n)->Q (.ref l) H'
theorem SB.unlock {H H':Hp} {d:Addr} {od:Obj} {u:HO} (s:SB [] (upd H d (.frz od u)) H') (hd:H d=some u) (n1:∀ xs,u ≠ .tup xs) (n2:∀ o v,u ≠ .frz o v):SB [] H (upd H' d u):=by
 refine ⟨fun b o e _=>?_,fun b xs e=>?_,fun b o v e=>?_,fun b e=>?_⟩
 ·by_cases z:b=d
  ·rw [z,upd_same]; rw [z,hd] at e; exact e
  ·rw [upd_ne z]; exact s.keep b o (by rw [upd_ne z]; exact e) nmn
 ·have z:b ≠ d:=fun z=>by rw [z,hd] at e; exact n1 _ (Option.some.inj e)
  rw [upd_ne z]; exact s.tups b xs (by rw [upd_ne z]; exact e)
 ·have z:b ≠ d:=fun z=>by rw [z,hd] at e; exact n2 _ _ (Option.some.inj e)
  rw [upd_ne z]; exact s.frzs b o v (by rw [upd_ne z]; exact e)
 ·have z:b ≠ d:=fun z=>by rw [z,upd_same] at e; cases e
  rw [upd_ne z] at e
  have:=s.dom b e
  rwa [upd_ne z] at this
theorem all_srt {ss ks:List Str} (so:SrtOf ss ks) (p:Str->Bool):ss.all p=ks.all p:=by
 rw [Bool.eq_iff_iff,List.all_eq_true,List.all_eq_true]
 exact ⟨fun h x hx=>h x ((so.mem x).mpr hx),fun h x hx=>h x ((so.mem x).mp hx)⟩
theorem getKR {H:Hp} {d:Addr} {kvs:List (Key × V)} {n:Str} {v:V} (h:L2.Rd H d (.dK kvs)) (e:valV kvs (Sum.inr n)=some v):DGet H d (.str n) (some v):=.inl ⟨kvs,Sum.inr n,h,rfl,e.symm⟩
theorem LedAll.sb {K:PySem.W.Frag} {H H':Hp} {ps:List Addr} (e:SB ps H H'):∀ {kvs:List (Key × V)} {b:Bk},LedAll K H kvs b->(∀ p ∈ kvs,∀ q ∈ ps,p.2 ≠ .ref q)->LedAll K H' kvs b
 | _,_,.nil,_=>.nil
 | _,_,.cons a s t,h=>.cons (e.keep _ _ a fun z=>h _ mcs _ z rfl) s (LedAll.sb e t fun p hp=>h p (mcm _ hp))
theorem LedAll.ne {K:PySem.W.Frag} {H:Hp} {q:Addr} (hq:H q=none):∀ {kvs:List (Key × V)} {b:Bk},LedAll K H kvs b->∀ p ∈ kvs,p.2 ≠ .ref q
 | _,_,.nil,p,hp=>by cases hp
 | _,_,.cons a s t,p,hp=>by
  rcases List.mem_cons.mp hp with e | e
  ·rw [e]
   intro z
   rw [V.ref.inj z] at a
   rw [a] at hq; cases hq
  ·exact LedAll.ne hq t p e
theorem LedAll.keys {K:PySem.W.Frag} {H:Hp}:∀ {kvs:List (Key × V)} {b:Bk},LedAll K H kvs b->kvs.map (·.1)=b.names.map Sum.inr
 | _,_,.nil=>rfl
 | _,_,.cons a s t=>by rw [List.map_cons,LedAll.keys t]; rfl
theorem end_closed {b:Bk} (ok:b.Ok) {es:List Str} (h:b.names.filter (into b es)=[]) {n:Str} (e:EndK b n):n ∈ b.names->n ∈ es:=by
 induction e with
 | @mk n _ ih =>
  intro hn
  refine Classical.byContradiction fun z=>?_
  have:n ∈ b.names.filter (into b es):=List.mem_filter.mpr ⟨hn,by
   unfold into
   rw [Bool.and_eq_true,decide_eq_true_eq,List.all_eq_true]
   exact ⟨z,fun k hk=>decide_eq_true (ih k hk (adj_names ok hk))⟩⟩
  rw [h] at this; cases this
section
variable {J:It} {n:Nat} {G:Hp->Prop} {Y:Nat->Hp->V->Hp->Prop}
theorem dc_seqQ (w:Walk J n G Y) {g:TG} {tt:TT} {tk tv:TE} {vs:List Nat} {σ:L2.St} {H:Hp} {D:Addr} {Qd:Hp->Prop} (hD:H D=none) (hn:n < sizeLine) (R:Nat->List (Key × V)->Hp->Prop) (h0:R 0 [] H) (hG:∀ H2,SB [] H H2->G H2)
  (st:∀ i us H2 H3,SB [D] H2 H3->R i us H2->R i us H3)
  (turn:∀ (Pv:Hp->Prop) i x H2 H' kvs,i < n->SB [] H H2->Y i H2 x H'->R i kvs H2->kvs.length<=i->H2 D=some (.dK kvs)->(∀ k z H5,SB [] H2 H5->R (i+1) (putK kvs k z) H5->∃ kvs k',kV k=kV k'/\H5 D=some (.dK kvs)/\kvs.length < sizeLine/\Pv (upd H5 D (.dK (putK kvs k' z)))) ->
   (∀ H4,SB [] H2 H4->R (i+1) kvs H4->Pv H4)->g x (wipe σ vs) H' fun σ2 H3=>wipe σ2 vs=wipe σ vs/\tt σ2 H3 fun b H4 =>
    if b=true then tk σ2 H4 fun y H5=>tv σ2 H5 fun z H6=>∃ kvs k,y=kV k/\H6 D=some (.dK kvs)/\kvs.length < sizeLine/\Pv (upd H6 D (.dK (putK kvs k z))) else Pv H4)
  (done:∀ kvs H2,SB [] H H2->H2 D=some (.dK kvs)->R n kvs H2->kvs.length<=n->Qd H2) :
  ∃ W:Nat->Nat->Hp->Prop,(∃ m,W 0 m (upd H D (.dK [])))/\∀ i m H,W i m H ->
   (J.stop i H/\Qd H)\/(J.go i H/\∃ Nx:Hp->Prop,(∀ H',Nx H'->∃ m',m' < m/\W (i+1) m' H')/\∀ x H',J.yld i H x H'->g x (wipe σ vs) H' fun σ2 H2=>wipe σ2 vs=wipe σ vs/\tt σ2 H2 fun b H3 =>
    if b=true then tk σ2 H3 fun y H4=>tv σ2 H4 fun z H5=>∃ kvs k,y=kV k/\H5 D=some (.dK kvs)/\kvs.length < sizeLine/\Nx (upd H5 D (.dK (putK kvs k z))) else Nx H3):=by
 refine lcG (body:=fun Nx x H'=>g x (wipe σ vs) H' fun σ2 H2=>wipe σ2 vs=wipe σ vs/\tt σ2 H2 fun b H3 =>
    if b=true then tk σ2 H3 fun y H4=>tv σ2 H4 fun z H5=>∃ kvs k,y=kV k/\H5 D=some (.dK kvs)/\kvs.length < sizeLine/\Nx (upd H5 D (.dK (putK kvs k z))) else Nx H3) w (fun i H2=>SB [D] H H2/\∃ kvs,H2 D=some (.dK kvs)/\R i kvs H2/\kvs.length<=i)
  ⟨SB.new hD _,[],upd_same,st _ _ _ _ (SB.new hD _) h0,Nat.le_refl _⟩ (fun i H2 _ h=>hG H2 (h.1.drop hD)) (fun i x H2 H' hi h y=>?_) (fun H2 h=>?_)
 ·obtain ⟨s2,kvs,hD2,hR,hl⟩:=h
  refine turn _ i x H2 H' kvs hi (s2.drop hD) y hR hl hD2 (fun k z H5 s5 r5=>?_) (fun H4 s4 r4=>⟨s2.trans s4.nil,kvs,s4.keep _ _ hD2 nmn,r4,by omega⟩)
  have hD5:=s5.keep _ _ hD2 nmn
  refine ⟨kvs,k,rfl,hD5,by omega,(s2.trans s5.nil).trans (SB.setD hD5 (by simp) _),_,upd_same,st _ _ _ _ (SB.setD hD5 (by simp) _) r5,?_⟩
  have:=length_putK kvs k z
  omega
 ·obtain ⟨s2,kvs,hD2,hR,hl⟩:=h
  exact done kvs H2 (s2.drop hD) hD2 hR hl
end
theorem take_fresh {b:Bk} (nd:b.names.Nodup) {i:Nat} {k:Kd} (ek:b[i]?=some k):k.n ∉ Bk.names (b.take i):=by
 have e:b=b.take i++k::b.drop (i+1):=by
  have hl:i < b.length:=(List.getElem?_eq_some_iff.mp ek).1
  have:=List.drop_eq_getElem_cons hl
  rw [(List.getElem?_eq_some_iff.mp ek).2] at this
  rw [<- this,List.take_append_drop]
 have h:b.names=Bk.names (b.take i)++k.n::Bk.names (b.drop (i+1)):=by
  conv=>lhs; rw [e]
  rw [Bk.names,List.map_append]; rfl
 rw [h] at nd
 exact fun z=>(List.nodup_append.mp nd).2.2 _ z _ mcs rfl
variable {K:PySem.W.Frag} {H H':Hp}
mutual
theorem Dp_tp (e:∀ a xs,SqT K H a xs->SqT K H' a xs):∀ (d:PyData) (v:V),noList d=true->Dp K H v d->Dp K H' v d
 | .none,_,_,h=>by cases h; exact .non
 | .bool b,_,_,h=>by cases h; exact .bl b
 | .int i,_,_,h=>by cases h; exact .int i
 | .str x,_,_,h=>by cases h; exact .str x
 | .list ds,_,n,_=>by simp [noList] at n
 | .dict ds,_,n,_=>by simp [noList] at n
 | .tuple ds,_,n,h=>by
  cases h with
  | tup hs ha=>exact .tup (e _ _ hs) (DpAll_tp e ds _ (by simpa [noList] using n) ha)
theorem DpAll_tp (e:∀ a xs,SqT K H a xs->SqT K H' a xs):∀ (ds:List PyData) (vs:List V),noLists ds=true->DpAll K H vs ds->DpAll K H' vs ds
 | [],_,_,h=>by cases h; exact .nil
 | d::ds,_,n,h=>by
  cases h with
  | cons h1 h2 =>
   simp [noLists] at n
   exact .cons (Dp_tp e d _ n.1 h1) (DpAll_tp e ds _ n.2 h2)
end
theorem Bears.tp {β:Type} {enc:β->PyData} (e:∀ a xs,SqT K H a xs->SqT K H' a xs) (hn:∀ b,noList (enc b)=true):∀ {xs:List V} {bs:List β},Bears K H enc xs bs->Bears K H' enc xs bs
 | _,_,.nil=>.nil
 | _,_,.cons a b=>.cons (Dp_tp e _ _ (hn _) a) (Bears.tp e hn b)
theorem sqT_dic {D:Addr} {od:Obj} {kvs:List (Key × V)} {u:HO} (h:H D=some (.frz od (.dK kvs))) (a:Addr) (xs:List V) (s:SqT K H a xs):SqT K (upd H D u) a xs:=by
 rcases s with (s | ⟨o,s⟩) | s
 ·exact .inl (.inl (by rw [upd_ne (fun z=>by rw [z,h] at s; cases s)]; exact s))
 ·exact .inl (.inr ⟨o,by rw [upd_ne (fun z=>by rw [z,h] at s; cases s)]; exact s⟩)
 ·exact .inr s
theorem sumE_cons {γ:Type} [DecidableEq γ] (p:γ × Int) (r:List (γ × Int)) (x:γ):sumE (p::r) x=(if p.1=x then p.2 else 0)+sumE r x:=rfl
namespace Gr
variable {C D E:Int} {g k:Gr}
def Named (ns:List Str) (g:Gr):Prop:=∀ x ∈ g.within,x.1.1 ∈ ns
theorem named_iff {ns:List Str}:Named ns g ↔ ∀ p ∈ g.ps,p.1.1 ∈ ns/\Named ns p.1.2:=by
 unfold Named
 rw [within_ps]
 constructor
 ·intro h p hp
  exact ⟨h p (List.mem_flatMap.mpr ⟨p,hp,by simp⟩),fun x hx=>h x (List.mem_flatMap.mpr ⟨p,hp,by simp [hx]⟩)⟩
 ·intro h x hx
  obtain ⟨p,hp,hx⟩:=List.mem_flatMap.mp hx
  rcases List.mem_cons.mp hx with e | hx
  ·rw [e]; exact (h p hp).1
  ·exact (h p hp).2 x hx
end Gr
namespace Gr
variable {b:Bk} {n:Int} {C F E:Int} {g fr:Gr}
theorem ok_mem (h:g.Ok C) {p:Tr × Int} (hp:p ∈ g.ps):NameOk p.1.1/\p.1.2.Ok C/\1<=p.2/\p.2 < C:=(ok_iff.mp h).1 p hp
end Gr
abbrev noR:Ru:=(.nil,.nil)
def spKindsF (K:PySem.W.Frag):Sp:=fun vs H Q _=>∃ (v:V) (g:Gr) (ns:List Str),vs=[v]/\GA K H v g/\g.deep<=68/\g.parts<=3000/\Gr.Named ns g/\ns.length<=60/\∀ (l:Addr) (ss:List Str) (H':Hp),SB [] H H'->H l=none->H' l=some (.lst (ss.map V.str))->SrtOf ss (g.within.map (·.1.1))->ss.length<=60->Q (.ref l) H'
theorem nilI {σ:L2.St} {H:Hp} {Q:List V->Hp->Prop} (h:Q [] H):tNil σ H Q:=h
namespace Gr
theorem sumE_nonneg:∀ {bs:List (Tr × Int)} (x:Tr),(∀ p ∈ bs,0<=p.2)->0<=sumE bs x
 | [],_,_=>Int.le_refl _
 | p::r,x,h=>by
  have:=sumE_nonneg (bs:=r) x fun q hq=>h q (by simp [hq])
  have:=h p (by simp)
  rw [sumE_cons]
  split <;> omega
end Gr
def tXfg (K:PySem.W.Frag) (a:Addr) (cls:Value) (d:Option Addr) (f:Str) (te:TE):TE:=fun σ H Q=>te σ H fun x H1=>∃ (C dd:Addr) (fs:List (Str × V)) (v:V),x=.ref a/\cls=.ref C/\ExcC K C/\PySem.W.findIn K (.ref C) f=some none/\d=some dd/\H1 dd=some (.xd fs)/\fs.lookup f=some v/\Q v H1
section
variable {X:Cx} {a:Addr} {oe:Obj} {cls:Value} {d:Option Addr}
theorem pe_xfg {e:Expr} {te:TE} {pos:Pos} {n:Str} (hm:(a,oe) ∈ X.pn) (hz:Zc cls d oe) (hf:∃ vs,oe.data=.fields vs) (he:PE X e te) (hb:attributeBase e n X.env (eval e X.env)=eval e X.env:=by rfl):PE X (.Attribute e n pos) (tXfg X.K a cls d n te):=by
 refine ⟨fun pins st σ H Q I h=>attr_of hb (thn (he.run pins st σ H _ I h) fun u s1 hh=>?_)⟩
 obtain ⟨x,H1,J1,rx,C,dd,fs,v,ex,ec,T,hno,ed,hx,l,q⟩:=hh
 subst ex ec ed
 cases (show u=Value.ref a from rx)
 obtain ⟨ga,_⟩:=J1.pin (a,oe) (List.mem_append.mpr (.inl hm))
 obtain ⟨mA,hns,hr⟩:=(show ObjOk X.prog X.w H1 s1.heap dd (.xd fs) from J1.hok dd _ hx)
 obtain ⟨od,ho,hl⟩:=lookIn_ns hns
 obtain ⟨w,hw,rw'⟩:=RelO.some_of (v:=v) (o:=mA n) (by rw [<- l]; exact hr n)
 obtain ⟨vs,hv⟩:=hf
 have nc:PySem.W.notCls oe=true:=by unfold PySem.W.notCls; rw [hv]
 have ins:PySem.W.InstAt s1.heap a oe C (some od):=⟨ga,hz.1,nc,by rw [hz.2]; exact ho⟩
 exact HandSPX.exc_get J1.kIn ins T.hg T.hk T.hs (PySem.W.findObj_own T.hd hno rfl (by rw [hl,hw])) (handed_of rw') ⟨v,H1,J1.tok _,rw',q⟩
end
structure ErrsM (K:PySem.W.Frag) (mg:Str->Option Value) (c:Str->Addr) (caught names kinds:List Str):Prop where
 glo:∀ n ∈ names,mg n=some (.ref (c n))
 FellError:mg "FellError"=some (.ref (c "FellError"))
 ve:mg "ValueError"=none
 exc:∀ n ∈ caught,ExcC K (c n)
 exm:∀ n ∈ caught,PySem.W.exmOne K (.ref (c n)) (.ref (c "FellError"))=some true
 kve:∀ n ∈ caught,PySem.W.kitOne K (.ref (c n)) (.type "ValueError")=some true
 kit:∀ n ∈ caught,∀ m ∈ names,PySem.W.kitOne K (.ref (c n)) (.ref (c m))=some (decide (n=m))
 nok:∀ n ∈ kinds,PySem.W.findIn K (.ref (c n)) "kind"=some none
 exo:∀ n ∈ caught,∀ m ∈ names,PySem.W.exmOne K (.ref (c n)) (.ref (c m))=some (decide (n=m))
def ermB (K:PySem.W.Frag) (c:Str->Addr) (caught names:List Str):Bool:=caught.all fun n=>excCB K (c n)&&(decide (PySem.W.exmOne K (.ref (c n)) (.ref (c "FellError"))=some true)&&(decide (PySem.W.kitOne K (.ref (c n)) (.type "ValueError")=some true)&&names.all fun m=>decide (PySem.W.kitOne K (.ref (c n)) (.ref (c m))=some (decide (n=m)))&&decide (PySem.W.exmOne K (.ref (c n)) (.ref (c m))=some (decide (n=m)))))
theorem ermB_ok {K:PySem.W.Frag} {mg:Str->Option Value} {c:Str->Addr} {caught names kinds:List Str} (h:ermB K c caught names=true) (g:∀ n ∈ names,mg n=some (.ref (c n))) (f:mg "FellError"=some (.ref (c "FellError"))) (v:mg "ValueError"=none) (k:∀ n ∈ kinds,PySem.W.findIn K (.ref (c n)) "kind"=some none):ErrsM K mg c caught names kinds:=by
 have hh:∀ n ∈ caught,excCB K (c n)=true/\PySem.W.exmOne K (.ref (c n)) (.ref (c "FellError"))=some true/\PySem.W.kitOne K (.ref (c n)) (.type "ValueError")=some true/\∀ m ∈ names,PySem.W.kitOne K (.ref (c n)) (.ref (c m))=some (decide (n=m))/\PySem.W.exmOne K (.ref (c n)) (.ref (c m))=some (decide (n=m)):=fun n hn=>by
  have:=List.all_eq_true.mp h n hn
  simp only [Bool.and_eq_true,decide_eq_true_eq,List.all_eq_true] at this
  exact this
 exact ⟨g,f,v,fun n hn=>excCB_ok (hh n hn).1,fun n hn=>(hh n hn).2.1,fun n hn=>(hh n hn).2.2.1,fun n hn m hm=>((hh n hn).2.2.2 m hm).1,k,fun n hn m hm=>((hh n hn).2.2.2 m hm).2⟩
namespace Lad
theorem enc_inj {l k:Lad} (e:l.enc=k.enc):l=k:=by
 have h:=eqv_enc l k
 rw [<- e,eqv_enc] at h
 by_cases z:l=k
 ·exact z
 ·rw [decide_eq_false z,decide_eq_true rfl] at h; cases h
def maxL (x:Lad) (xs:List Lad):Lad:=xs.foldl (fun a y=>if a.lt y=true then y else a) x
theorem maxL_enc:∀ (xs:List Lad) (x:Lad),maxD x.enc (xs.map enc)=(maxL x xs).enc
 | [],x=>rfl
 | y::r,x=>by
  show maxD (if dataLt x.enc y.enc=true then y.enc else x.enc) (r.map enc)=(maxL (if x.lt y=true then y else x) r).enc
  by_cases h:x.lt y=true
  ·rw [if_pos h,if_pos (show dataLt x.enc y.enc=true from h)]; exact maxL_enc r y
  ·rw [if_neg h,if_neg (show ¬ dataLt x.enc y.enc=true from h)]; exact maxL_enc r x
theorem maxL_mem:∀ (xs:List Lad) (x:Lad),maxL x xs ∈ x::xs
 | [],x=>mcs ..
 | y::r,x=>by
  show maxL (if x.lt y=true then y else x) r ∈ _
  by_cases h:x.lt y=true
  ·rw [if_pos h]; exact mcm _ (maxL_mem r y)
  ·rw [if_neg h]
   rcases List.mem_cons.mp (maxL_mem r x) with e | e
   ·rw [e]; exact mcs ..
   ·exact mcm _ (mcm _ e)
theorem maxL_ge:∀ (xs:List Lad) (x:Lad),∀ y ∈ x::xs,(maxL x xs).lt y=false
 | [],x,y,hy=>by rw [List.mem_singleton.mp hy]; exact lt_irrefl _
 | z::r,x,y,hy=>by
  show (maxL (if x.lt z=true then z else x) r).lt y=false
  by_cases h:x.lt z=true
  ·rw [if_pos h]
   have g:=maxL_ge r z
   rcases List.mem_cons.mp hy with rfl | hy
   ·cases e:(maxL z r).lt y with
    | false=>rfl
    | true =>
     have:=lt_trans _ _ _ e h
     rw [g z (mcs ..)] at this; cases this
   ·exact g y hy
  ·rw [if_neg h]
   have g:=maxL_ge r x
   rcases List.mem_cons.mp hy with rfl | hy
   ·exact g _ (mcs ..)
   rcases List.mem_cons.mp hy with rfl | hy
   ·cases e:(maxL x r).lt y with
    | false=>rfl
    | true =>
     have h:=eq_false_of_ne_true h
     have gx:=g x (mcs ..)
     by_cases e1:x=y
     ·subst e1; rw [gx] at e; cases e
     ·have:=lt_trans _ _ _ e (lt_tri x y e1 h)
      rw [gx] at this; cases this
   ·exact g y (mcm _ hy)
end Lad
section
variable {prog:Program} {w:World} {A:Around} {E:Value->Shared->Prop} {s:Shared}
theorem max_at {l:Addr} {vs:Array Value} {x:PyData} {xs:List PyData} {as:List Addr} {Q:Value->Shared->Prop} (hh:A.handled=none) (hl:s.heap.IsList l vs) (hr:ReadsAll s.heap vs.toList (x::xs) as) (ha:AlikeAll (x::xs)) (hu:A.units+1+PyData.depthAll (x::xs) < cLine)
  (h:∀ (i:Nat) v h' tk,vs[i]?=some v->(x::xs).getD i .none=maxD x xs->(∀ b o,s.heap.get? b=some o->h'.get? b=some o)->Q v { s with heap:=h',toks:=tk }) :
  wpAny (model prog w) A (call (.builtin "max") [.ref l]) Q E s:=by
 have hn:vs.size=xs.length+1:=readsAll_len hr
 refine call_max_walkH (iter_listW (A:=A.in1) hh hl fun s2 e W st hfp hw hk=>?_)
 refine ⟨_,_,_,_,_,_,_,s.heap,_,rfl,W,st,hfp,by omega,hw,hk,cmpIn_gt (A:=A.in1) hr ha (by show A.units+1+_ < _; exact hu),fun v s' hP m=>?_⟩
 obtain ⟨h',tk,rfl,hk'⟩:=moved_old e rfl m
 have e1:vs.size-1=xs.length:=by omega
 have e2:=(argBest_fold (fun a b=>dataLt b a) PyData.none x xs xs.length (Nat.le_refl _)).2
 rw [List.take_length] at e2
 refine h _ v h' tk hP ?_ hk'
 rw [e1]
 unfold maxD
 exact e2
end
def rMaxL (K:PySem.W.Frag):List V->Hp->VK->Prop:=fun vs H Q=>∃ (a:Addr) (xs:List V) (l:Lad) (ls:List Lad),vs=[V.ref a]/\SqL K H a xs/\Bears K H Lad.enc xs (l::ls)/\(∀ k ∈ l::ls,k.deep<=45)/\∀ x:V,LA K H x (Lad.maxL l ls)->Q x H
theorem Vals.at':∀ {vs:List V} {us:List Value} {i:Nat} {u:Value},Vals vs us->us[i]?=some u->∃ v,vs[i]?=some v/\RelV v u
 | _,_,0,u,.cons r _,h=>⟨_,rfl,by have e:=Option.some.inj (show some _=some u from h); subst e; exact r⟩
 | _,_,i+1,u,.cons _ t,h=>Vals.at' (i:=i) t (by simpa using h)
 | _,_,i,u,.nil,h=>by simp at h
theorem cr_maxL {X:Cx} (hc:X.calm=true) (hu:X.A.units+110 < cLine):CallR X (.builtin "max") (rMaxL X.K):=by
 intro pins s σ H vs us Q I r h
 obtain ⟨a,xs,l,ls,rfl,hs,hb,hd,q⟩:=h
 obtain ⟨its,rv,hl,_⟩:=I.list hs
 rw [Vals.ref1 r]
 obtain ⟨_,e2⟩:=each_of I hb rv
 obtain ⟨as,ra⟩:=each_readsAll Lad.enc e2
 have al:AlikeAll ((l::ls).map Lad.enc):=⟨fun x hx y hy=>by
  obtain ⟨p,_,rfl⟩:=List.mem_map.mp hx
  obtain ⟨p2,_,rfl⟩:=List.mem_map.mp hy
  exact Lad.alike_enc p p2,fun x hx=>by
  obtain ⟨p,_,rfl⟩:=List.mem_map.mp hx
  exact Lad.enc_ne p⟩
 have hdep:PyData.depthAll ((l::ls).map Lad.enc)<=91:=depths_le fun d hd'=>by
  obtain ⟨p,hp,rfl⟩:=List.mem_map.mp hd'
  have:=hd p hp
  have:=Lad.enc_depth p
  omega
 refine max_at (vs:=its.toArray) (x:=l.enc) (xs:=ls.map Lad.enc) (as:=as) (I.ok.hd hc) hl.isList (by simpa using ra) al (by show X.A.units+1+PyData.depthAll ((l::ls).map Lad.enc) < cLine; omega) fun i u h' tk hi e hk=>?_
 obtain ⟨v,ev,rvu⟩:=Vals.at' (i:=i) rv (by simpa using hi)
 obtain ⟨p,ep,hp⟩:=hb.get ev
 have e3:p.enc=(Lad.maxL l ls).enc:=by
  rw [<- Lad.maxL_enc,<- e,show (l.enc::ls.map Lad.enc)=(l::ls).map Lad.enc from rfl,List.getD_eq_getElem?_getD,List.getElem?_map,ep]
  rfl
 have e4:=Lad.enc_inj e3
 exact ⟨v,H,I.kept hk,rvu,q v (by rw [<- e4]; exact hp)⟩
def lad (w:Bool) (o l:Lad):Lad:=if w=true then Lad.spd o l else Lad.bhd o l
def Bk.wide (b:Bk) (n:Str):Bool:=match b.get n with
 | some k=>k.w
 | none=>false
theorem Bk.wide_get {b:Bk} {n:Str} {k:Kd} (h:b.get n=some k):b.wide n=k.w:=by unfold Bk.wide; rw [h]
namespace Gr
def rkT (b:Bk) (ρ:Str->Lad):Gr->List Lad
 | .nil=>[]
 | .cons k g m r=>Lad.tms (lad (b.wide k) (ρ k) (Lad.bths (rkT b ρ g))) m::rkT b ρ r
def rk (b:Bk) (ρ:Str->Lad) (g:Gr):Lad:=Lad.bths (rkT b ρ g)
def rkt (b:Bk) (ρ:Str->Lad) (t:Tr):Lad:=lad (b.wide t.1) (ρ t.1) (rk b ρ t.2)
variable {b:Bk} {ρ:Str->Lad} {C:Int}
theorem rkT_ps:∀ g:Gr,rkT b ρ g=g.ps.map fun p=>Lad.tms (rkt b ρ p.1) p.2
 | .nil=>rfl
 | .cons k g m r=>by
  show _::rkT b ρ r=_::r.ps.map _
  rw [rkT_ps r]; rfl
theorem rk_ps (g:Gr):rk b ρ g=Lad.bths (g.ps.map fun p=>Lad.tms (rkt b ρ p.1) p.2):=by unfold rk; rw [rkT_ps]
theorem S_bths (ls:List Lad) (x:Lad):Lad.S (Lad.bths ls) x=(ls.map fun l=>Lad.S l x).sum:=by
 have e:Lad.S (Lad.bths ls) x=Lad.sumAt (ls.flatMap Lad.ps) x:=by
  unfold Lad.bths Lad.S
  rw [Lad.ps_ofPs,Lad.sumAt_jn,Lad.sumAt_perm (Lad.dsc_perm _)]
 rw [e]
 clear e
 induction ls with
 | nil=>rfl
 | cons l r ih=>rw [List.flatMap_cons,Lad.sumAt_append,ih]; rfl
end Gr
structure LFit (l:Lad):Prop where
 deep:l.deep<=25
 parts:l.parts<=900
 num:∀ p ∈ l.ps,0<=p.2/\p.2 < 2 ^ 2000
def Gr.Fit (b:Bk) (ρ:Str->Lad) (ns:List Str):Gr->Prop
 | .nil=>True
 | .cons k g m r=>(k ∈ ns/\k ∈ b.names/\ρ k ≠ .nil/\LFit (ρ k)/\LFit (Gr.rk b ρ g)/\LFit (Gr.rkt b ρ (k,g))/\0<=m/\m < 2 ^ 2000/\((Gr.rkT b ρ (.cons k g m r)).flatMap Lad.ps).length<=900)/\Gr.Fit b ρ ns g/\Gr.Fit b ρ ns r
def RkD (K:PySem.W.Frag) (H:Hp) (d:Addr) (ρ:Str->Lad) (ns:List Str):Prop:=∃ us:List V,H d=some (.dK (List.zipWith (fun (n:Str) (u:V)=>((Sum.inr n:Key),u)) ns us))/\Bears K H Lad.enc us (ns.map ρ)
theorem zip_val {K:PySem.W.Frag} {H:Hp} {ρ:Str->Lad} {n:Str}:∀ {ns:List Str} {us:List V},Bears K H Lad.enc us (ns.map ρ)->n ∈ ns->∃ u,valV (List.zipWith (fun (n:Str) (u:V)=>((Sum.inr n:Key),u)) ns us) (Sum.inr n)=some u/\LA K H u (ρ n)
 | [],_,_,hn=>nomatch hn
 | m::r,us,h,hn=>by
  cases h with
  | @cons u us' _ _ h1 h2 =>
  by_cases e:m=n
  ·subst e
   exact ⟨u,by simp [valV],h1⟩
  ·obtain ⟨v,h3,h4⟩:=zip_val h2 (by rcases List.mem_cons.mp hn with z | z; exact absurd z.symm e; exact z)
   refine ⟨v,?_,h4⟩
   rw [List.zipWith_cons_cons]
   unfold valV
   rw [List.find?_cons_of_neg (by simp only [decide_eq_true_eq]; exact fun z=>e (Sum.inr.inj z))]
   exact h3
theorem RkD.val {K:PySem.W.Frag} {H:Hp} {d:Addr} {ρ:Str->Lad} {ns:List Str} {n:Str} (h:RkD K H d ρ ns) (hn:n ∈ ns):∃ u,DGet H d (.str n) (some u)/\LA K H u (ρ n):=by
 obtain ⟨us,h1,h2⟩:=h
 obtain ⟨u,h3,h4⟩:=zip_val h2 hn
 exact ⟨u,getK h1 h3,h4⟩
theorem RkD.sb {K:PySem.W.Frag} {H H':Hp} {d:Addr} {ρ:Str->Lad} {ns:List Str} {ps:List Addr} (h:RkD K H d ρ ns) (s:SB ps H H') (hd:d ∉ ps):RkD K H' d ρ ns:=by
 obtain ⟨us,h1,h2⟩:=h
 exact ⟨us,s.keep _ _ h1 hd,h2.sb s Lad.noList_enc⟩
theorem RkD.sb0 {K:PySem.W.Frag} {H H':Hp} {d:Addr} {ρ:Str->Lad} {ns:List Str} (h:RkD K H d ρ ns) (s:SB [] H H'):RkD K H' d ρ ns:=h.sb s nmn
def clm (b:Bk) (ρ:Str->Lad) (r:Ru):Lad:=Lad.abv (Gr.rk b ρ r.1) (Gr.rk b ρ r.2)
def RFit (b:Bk) (ρ:Str->Lad) (ns:List Str) (r:Ru):Prop:=Gr.Fit b ρ ns r.1/\Gr.Fit b ρ ns r.2/\(Gr.rk b ρ r.1).deep<=24/\(Gr.rk b ρ r.2).deep<=24/\(Gr.rk b ρ r.1).parts<=390/\(Gr.rk b ρ r.2).parts<=390
def spClimb (K:PySem.W.Frag) (C:Addr):Sp:=fun vs H Q _=>∃ (v u:V) (d:Addr) (b:Bk) (ρ:Str->Lad) (ns:List Str) (r:Ru),vs=[v,.ref d,u]/\BkA K C H v b/\b.length<=1000/\RkD K H d ρ ns/\Dp K H u (Ru.enc r)/\r.1.deep < 20/\r.2.deep < 20/\r.1.parts<=900/\r.2.parts<=900/\RFit b ρ ns r/\∀ (x:V) (H':Hp),SB [] H H'->LA K H' x (clm b ρ r)->Q x H'
theorem clm_no (b:Bk) (ρ:Str->Lad):clm b ρ (.nil,.nil)=Lad.uno:=by
 show Lad.abv (Gr.rk b ρ .nil) (Gr.rk b ρ .nil)=Lad.uno
 have e:Gr.rk b ρ .nil=.nil:=by
  show Lad.ofPs (jn (Lad.dsc []))=.nil
  have:Lad.dsc []=[]:=List.Perm.eq_nil (Lad.dsc_perm [])
  rw [this]; rfl
 rw [e]
 show Lad.bth .nil Lad.uno=Lad.uno
 rw [Lad.bth_comm]
 exact Lad.bth_nil Lad.uno_ok
theorem RFit_no (b:Bk) (ρ:Str->Lad) (ns:List Str):RFit b ρ ns (.nil,.nil):=by
 have e:Gr.rk b ρ .nil=.nil:=by
  show Lad.ofPs (jn (Lad.dsc []))=.nil
  have:Lad.dsc []=[]:=List.Perm.eq_nil (Lad.dsc_perm [])
  rw [this]; rfl
 exact ⟨trivial,trivial,by show (Gr.rk b ρ .nil).deep<=24; rw [e]; decide,by show (Gr.rk b ρ .nil).deep<=24; rw [e]; decide,by show (Gr.rk b ρ .nil).parts<=390; rw [e]; decide,by show (Gr.rk b ρ .nil).parts<=390; rw [e]; decide⟩
structure OwnR (b:Bk) (ρ:Str->Lad):Prop where
 own:∀ k ∈ b,EndK b k.n->ρ k.n=Lad.maxL Lad.uno (k.rs.map (clm b ρ))
 fit:∀ k ∈ b,EndK b k.n->∀ ns,(∀ n,n ∈ adj b k.n->n ∈ ns)->∀ r ∈ k.rs,RFit b ρ ns r
 deep:∀ k ∈ b,EndK b k.n->∀ r ∈ k.rs,(clm b ρ r).deep<=45
structure EndO (b:Bk) (es:List Str):Prop where
 nd:es.Nodup
 len:es.length<=8
 mem:∀ n,n ∈ es ↔ n ∈ b.names/\EndK b n
 ord:∀ (i:Nat) (n:Str),es[i]?=some n->∀ k ∈ adj b n,k ∈ es.take i
def spEndingO (K:PySem.W.Frag) (C N:Addr):Sp:=fun vs H Q E=>∃ (v:V) (b:Bk),vs=[v]/\BkA K C H v b/\b.Ok/\∀ (l:Addr) (es:List Str) (H':Hp),SB [] H H'->H l=none->H' l=some (.lst (es.map V.str))->EndO b es->Q (.ref l) H'
def spOwnRanks (K:PySem.W.Frag) (C N:Addr):Sp:=fun vs H Q _=>∃ (v:V) (b:Bk) (ρ:Str->Lad),vs=[v]/\BkA K C H v b/\b.Ok/\OwnR b ρ/\∀ (d:Addr) (es:List Str) (H':Hp),SB [] H H'->H d=none->RkD K H' d ρ es->EndO b es->Q (.ref d) H'
theorem RkD.put {K:PySem.W.Frag} {H:Hp} {d:Addr} {ρ:Str->Lad} {ns:List Str} {n:Str} {x:V} (h:RkD K H d ρ ns) (hn:n ∉ ns) (hl:ns.length<=1000) (hx:LA K H x (ρ n)):∃ H',DPut H d (.str n) x H'/\SB [d] H H'/\RkD K H' d ρ (ns++[n]):=by
 obtain ⟨us,h1,h2⟩:=h
 have szl:=sizeLine_eq
 have ul:us.length=ns.length:=by rw [h2.length,List.length_map]
 have t:=SB.setD (ps:=[d]) h1 (by simp) (.dK (putK (List.zipWith (fun (n:Str) (u:V)=>((Sum.inr n:Key),u)) ns us) (Sum.inr n) x))
 have e:putK (List.zipWith (fun (n:Str) (u:V)=>((Sum.inr n:Key),u)) ns us) (Sum.inr n) x=List.zipWith (fun (n:Str) (u:V)=>((Sum.inr n:Key),u)) (ns++[n]) (us++[x]):=by
  rw [putK_new fun p hp z=>?_,List.zipWith_append (by omega)]
  ·rfl
  ·clear t h1 h2 ul
   induction ns generalizing us with
   | nil=>cases hp
   | cons m r ih =>
    cases us with
    | nil=>cases hp
    | cons u us =>
     rw [List.zipWith_cons_cons] at hp
     rcases List.mem_cons.mp hp with rfl | hp
     ·exact hn (List.mem_cons.mpr (.inl (Sum.inr.inj z).symm))
     ·exact ih (fun h=>hn (mcm _ h)) (by simp at hl; omega) us hp
 refine ⟨_,DPut.k (k:=Sum.inr n) h1 (by rw [List.length_zipWith]; omega),t,us++[x],?_,?_⟩
 ·rw [upd_same,e]
 ·rw [List.map_append]
  exact (h2.sb t Lad.noList_enc).append (.cons (LA.sb hx t) .nil)
namespace Lad
theorem deep_le' {n:Nat}:∀ {l:Lad},(∀ p ∈ l.ps,p.1.deep < n)->l.deep<=n
 | .nil,_=>Nat.zero_le _
 | .cons e m r,h=>by
  have h1:=h (e,m) (mcs ..)
  have h2:=deep_le' (l:=r) fun p hp=>h p (mcm _ hp)
  have h1:e.deep < n:=h1
  show max (1+e.deep) r.deep<=n
  omega
end Lad
theorem bears_strs {K:PySem.W.Frag} {H:Hp}:∀ ks:List Str,Bears K H PyData.str (ks.map V.str) ks
 | []=>.nil
 | k::r=>.cons (.str k) (bears_strs r)
section
variable {K:PySem.W.Frag} {H:Hp} {σ:L2.St} {i:Nat} {N:Addr} {n:Str} {zs:List V}
theorem tupI {as:TA} {Q:VK} (h:as σ H fun xs H1=>xs.length<=sizeLine/\∀ p,H1 p=none->Q (.ref p) (upd H1 p (.tup xs))):tTup as σ H Q:=h
end
theorem ok_one {n:Str} {m:Int} {C:Int} (hn:NameOk n) (hm:1<=m) (hC:m < C):(Gr.cons n .nil m .nil).Ok C:=⟨hn,trivial,hm,hC,trivial,by simp [Gr.ps]⟩
abbrev rMulS:R2:=fun x y H Q=>∃ (z:Str) (n:Nat),x=.str z/\y=.int (n:Int)/\n<=1000/\z.length<=1000/\Q (.str (Txt.mul z (n:Int))) H
theorem mul_fits {z:Str} {n:Nat} (hn:n<=1000) (hz:z.length<=1000):MulOk z (n:Int):=by
 have hp:z.length*n<=1000*1000:=Nat.mul_le_mul hz hn
 refine ⟨?_,fun h1 _=>?_,fun h1 _=>?_⟩
 ·rw [decide_eq_false (by omega),decide_eq_false (by omega)]; rfl
 ·have:(z.length:Int)<=(2 ^ 63-1) / (n:Int):=by
   refine (Int.le_ediv_iff_mul_le (by omega)).mpr ?_
   have:((z.length*n:Nat):Int)<=1000000:=by omega
   rw [Int.natCast_mul] at this
   omega
  omega
 ·rw [Int.toNat_natCast]
  unfold Builtin.Str.tooLong
  rw [decide_eq_false]
  have:=sizeLine_eq
  omega
theorem op_mulS {X:Cx}:OpR X (binaryOp .Mult) rMulS:=by
 intro pins s σ H x y v u Q I rx ry h
 obtain ⟨z,n,rfl,rfl,hn,hz,q⟩:=h
 obtain ⟨t,rfl⟩:=rx
 obtain ⟨t',rfl⟩:=ry
 exact PySem.SB.mul (mul_fits hn hz) (fun t' tk=>⟨.str (Txt.mul z (n:Int)),H,I.tok _,⟨_,rfl⟩,q⟩)
theorem fold_rep (c:Nat):∀ (n:Nat) (b:Array Nat),((List.replicate n (#[c]:Array Nat)).foldl (·++·) b).toList=b.toList++List.replicate n c
 | 0,b=>by simp
 | n+1,b=>by
  rw [List.replicate_succ,List.foldl_cons,fold_rep c n]
  simp [List.replicate_succ]
theorem mul_one (c n:Nat):(Txt.mul ⟨#[c]⟩ (n:Int)).cps.toList=List.replicate n c:=by
 unfold Txt.mul
 by_cases h1:(n:Int) < 1
 ·rw [if_pos h1]
  have:n=0:=by omega
  subst this; rfl
 ·rw [if_neg h1]
  by_cases h2:((n:Int) == 1 || (⟨#[c]⟩:Str).length == 0)=true
  ·rw [if_pos h2]
   have:n=1:=by
    have e:((⟨#[c]⟩:Str).length == 0)=false:=rfl
    rw [e,Bool.or_false] at h2
    have:=beq_iff_eq.mp h2
    omega
   subst this; rfl
  ·rw [if_neg h2,Int.toNat_natCast]
   exact (fold_rep c n #[]).trans (by simp)
theorem Ltr.mul {c:Nat} (n:Nat) (h:97<=c/\c<=122):Ltr (Txt.mul ⟨#[c]⟩ (n:Int)) n:=by
 refine ⟨?_,fun x hx=>?_⟩
 ·rw [mul_one]; simp
 ·rw [mul_one] at hx
  rw [List.eq_of_mem_replicate hx]; exact h
theorem RkD.none {K:PySem.W.Frag} {H:Hp} {d:Addr} {ρ:Str->Lad} {ns:List Str} {n:Str} (h:RkD K H d ρ ns) (hn:n ∉ ns):DGet H d (.str n) none:=by
 obtain ⟨us,h1,h2⟩:=h
 refine .inl ⟨_,Sum.inr n,.inl h1,rfl,?_⟩
 unfold valV
 have:List.find? (fun kv:Key × V=>decide (kv.1=Sum.inr n)) (List.zipWith (fun (n:Str) (u:V)=>((Sum.inr n:Key),u)) ns us)=Option.none:=by
  refine List.find?_eq_none.mpr fun x hx=>?_
  have key:∀ (ns:List Str) (us:List V),x ∈ List.zipWith (fun (n:Str) (u:V)=>((Sum.inr n:Key),u)) ns us->∃ m ∈ ns,x.1=Sum.inr m:=by
   intro ns
   induction ns with
   | nil=>intro us h; cases h
   | cons m r ih =>
    intro us h
    cases us with
    | nil=>cases h
    | cons u us =>
     rw [List.zipWith_cons_cons] at h
     rcases List.mem_cons.mp h with rfl | h
     ·exact ⟨m,mcs ..,rfl⟩
     ·obtain ⟨m',h1,h2⟩:=ih us h
      exact ⟨m',mcm _ h1,h2⟩
  obtain ⟨m,hm,e⟩:=key ns us hx
  rw [e]
  simp only [decide_eq_true_eq]
  exact fun z=>hn (by rw [<- Sum.inr.inj z]; exact hm)
 rw [this]; rfl
theorem KdAll.more {K:PySem.W.Frag} {H:Hp} {bad:List Addr} {R:Addr} (hR:H R=none):∀ {vs:List V} {b:Bk},KdAll K H bad vs b->KdAll K H (R::bad) vs b
 | _,_,.nil=>.nil
 | _,_,.cons a t=>by
  obtain ⟨t1,l,zs,e,h1,h2,h3,h4⟩:=a
  refine .cons ⟨t1,l,zs,e,h1,h2,h3,fun z=>?_⟩ (KdAll.more hR t)
  rcases List.mem_cons.mp z with z | z
  ·rw [z,hR] at h2; cases h2
  ·exact h4 z
theorem two_pos (n:Nat):(1:Int)<=2 ^ n:=by
 have:(0:Int) < 2 ^ n:=Int.pow_pos (by decide)
 omega
theorem two_mono {a b:Nat} (h:a<=b):(2:Int) ^ a<=2 ^ b:=by
 obtain ⟨k,rfl⟩:=Nat.le.dest h
 rw [Int.pow_add]
 have h1:=two_pos a
 have h2:=two_pos k
 have:=Int.mul_le_mul_of_nonneg_left h2 (show (0:Int)<=2 ^ a by omega)
 omega
theorem two_succ (a:Nat):(2:Int) ^ (a+1)=2*2 ^ a:=by rw [Int.pow_succ]; omega
namespace Lad
theorem lad_ok {B C:Int} {w:Bool} {o l:Lad} (ho:o.Ok B) (hl:l.Ok C) (hB:1<=B) (hC:1<=C):(lad w o l).Ok (B+C):=by
 unfold lad
 cases w with
 | false=>exact bhd_ok ho hl hB hC
 | true =>
  rw [if_pos rfl]
  cases o with
  | nil =>
   cases l with
   | nil=>trivial
   | cons e m r=>exact hl.mono (by omega)
  | cons e m r =>
   cases l with
   | nil=>exact ho.mono (by omega)
   | cons e2 m2 r2 =>
    show (Lad.cons (bhd e (.cons e2 m2 r2)) 1 .nil).Ok _
    exact ⟨bhd_ok ho.1 hl hB hC,by decide,by omega,trivial,by simp [ps]⟩
theorem lad_parts (w:Bool) (o l:Lad):(lad w o l).parts<=o.parts+l.parts:=by
 unfold lad
 cases w with
 | false=>exact bhd_parts o l
 | true =>
  rw [if_pos rfl]
  cases o with
  | nil=>cases l <;> simp [spd,parts]
  | cons e m r =>
   cases l with
   | nil=>show (Lad.cons e m r).parts<=_; omega
   | cons e2 m2 r2 =>
    have:=bhd_parts e (.cons e2 m2 r2)
    show 1+(bhd e (.cons e2 m2 r2)).parts+0<=1+e.parts+r.parts+_
    omega
theorem lad_deep {w:Bool} {o l:Lad} {n:Nat} (ho:o.deep<=n) (hl:l.deep<=n):(lad w o l).deep<=n+1:=by
 unfold lad
 cases w with
 | false=>exact Nat.le_succ_of_le (bhd_deep ho hl)
 | true =>
  rw [if_pos rfl]
  cases o with
  | nil=>cases l with
   | nil=>exact Nat.zero_le _
   | cons e m r=>exact Nat.le_succ_of_le hl
  | cons e m r =>
   cases l with
   | nil=>exact Nat.le_succ_of_le ho
   | cons e2 m2 r2 =>
    have he:e.deep<=n:=by
     have:max (1+e.deep) r.deep<=n:=ho
     omega
    have:=bhd_deep he hl
    show max (1+(bhd e (.cons e2 m2 r2)).deep) 0<=n+1
    omega
theorem bths_ok {ls:List Lad} {B D:Int} (h:∀ l ∈ ls,l.Ok B) (hB:0<=B) (hD:B<=D) (hs:∀ x,(ls.map fun l=>S l x).sum < D):(bths ls).Ok D:=by
 have hd:(jn (dsc (ls.flatMap ps))).Pairwise (fun p q=>q.1.lt p.1=true):=jn_desc (dsc_keys _)
 show (ofPs (jn (dsc (ls.flatMap ps)))).Ok D
 rw [ok_ps]
 refine ⟨fun p hp=>?_,hd⟩
 have hnd:∀ (bs:List (Lad × Int)),bs.Pairwise (fun p q=>q.1.lt p.1=true)->∀ p ∈ bs,sumAt bs p.1=p.2:=by
  intro bs
  induction bs with
  | nil=>intro _ p hp; cases hp
  | cons q r ih =>
   intro hpw p hp
   obtain ⟨e,m⟩:=q
   obtain ⟨h1,h2⟩:=List.pairwise_cons.mp hpw
   rw [sumAt_cons]
   rcases List.mem_cons.mp hp with hp | hp
   ·subst hp
    rw [if_pos rfl,sumAt_zero fun q hq=>lt_ne (h1 q hq)]
    omega
   ·rw [if_neg (fun z=>lt_ne (h1 p hp) z.symm),ih h2 p hp]
    omega
 have e1:sumAt (jn (dsc (ls.flatMap ps))) p.1=p.2:=hnd _ hd p hp
 have e2:p.2=(ls.map fun l=>S l p.1).sum:=by
  rw [<- e1,<- Gr.S_bths]
  show _=sumAt (bths ls).ps p.1
  unfold bths
  rw [ps_ofPs]
 obtain ⟨q,hq,eq⟩:=jn_keys _ p hp
 have hq':=(dsc_perm _).mem_iff.mp hq
 obtain ⟨l,hl,hql⟩:=List.mem_flatMap.mp hq'
 have qo:=(ok_iff.mp (h l hl)).1 q hql
 have pos:∀ (ks:List Lad),(∀ l ∈ ks,l.Ok B)->0<=(ks.map fun l=>S l p.1).sum/\∀ l ∈ ks,S l p.1<=(ks.map fun l=>S l p.1).sum:=by
  intro ks
  induction ks with
  | nil=>intro _; exact ⟨Int.le_refl _,fun l hl=>nomatch hl⟩
  | cons k r ih =>
   intro hk
   obtain ⟨i1,i2⟩:=ih fun l hl=>hk l (mcm _ hl)
   have n1:=S_nonneg (hk k (mcs ..)) p.1
   rw [List.map_cons,List.sum_cons]
   refine ⟨by omega,fun l hl=>?_⟩
   rcases List.mem_cons.mp hl with rfl | hl
   ·omega
   ·have:=i2 l hl; omega
 have s1:=(pos ls h).2 l hl
 have s2:S l p.1=q.2:=by rw [<- eq]; exact S_mem (h l hl) hql
 have s3:=hs p.1
 refine ⟨?_,by omega,by omega⟩
 rw [<- eq]; exact qo.1.mono hD
theorem bths_parts (ls:List Lad):(bths ls).parts<=(ls.map parts).sum:=by
 have e:∀ ls:List Lad,tot (ls.flatMap ps)=(ls.map parts).sum:=by
  intro ls
  induction ls with
  | nil=>rfl
  | cons l r ih =>
   rw [List.flatMap_cons,tot_append,ih,List.map_cons,List.sum_cons]
   have:tot l.ps=l.parts:=by
    have:=parts_ofPs l.ps
    rw [ofPs_ps] at this; exact this.symm
   rw [this]
 show (ofPs (jn (dsc (ls.flatMap ps)))).parts<=_
 rw [parts_ofPs,<- e]
 exact Nat.le_trans (tot_jn _) (Nat.le_of_eq (tot_perm (dsc_perm _)))
theorem bths_deep {ls:List Lad} {n:Nat} (h:∀ l ∈ ls,l.deep<=n):(bths ls).deep<=n:=by
 refine deep_le' fun p hp=>?_
 unfold bths at hp
 rw [ps_ofPs] at hp
 obtain ⟨q,hq,e⟩:=jn_keys _ p hp
 obtain ⟨l,hl,hql⟩:=List.mem_flatMap.mp ((dsc_perm _).mem_iff.mp hq)
 have:=l.mem_deep q hql
 have:=h l hl
 rw [<- e]; omega
end Lad
namespace Gr
variable {b:Bk} {ρ σ:Str->Lad} {C:Int} {ns:List Str}
theorem rk_nil:rk b ρ .nil=.nil:=by
 show Lad.ofPs (jn (Lad.dsc []))=.nil
 have:Lad.dsc []=[]:=List.Perm.eq_nil (Lad.dsc_perm [])
 rw [this]; rfl
theorem rkT_congr:∀ {g:Gr},(∀ x ∈ g.within,ρ x.1.1=σ x.1.1)->rkT b ρ g=rkT b σ g
 | .nil,_=>rfl
 | .cons k g m r,h=>by
  have e1:=h ((k,g),m) (mcs ..)
  have e2:=rkT_congr (g:=g) fun x hx=>h x (mcm _ (mal _ hx))
  have e3:=rkT_congr (g:=r) fun x hx=>h x (mcm _ (mar _ hx))
  show Lad.tms (lad (b.wide k) (ρ k) (Lad.bths (rkT b ρ g))) m::rkT b ρ r=_::rkT b σ r
  rw [e2,e3,show ρ k=σ k from e1]
theorem rk_congr {g:Gr} (h:∀ x ∈ g.within,ρ x.1.1=σ x.1.1):rk b ρ g=rk b σ g:=by unfold rk; rw [rkT_congr h]
theorem rk_size {P D:Nat} (hk:∀ n ∈ ns,(ρ n).parts<=P/\(ρ n).deep<=D):∀ {g:Gr},Named ns g->((rkT b ρ g).map Lad.parts).sum<=P*g.parts/\∀ l ∈ rkT b ρ g,l.deep<=D+g.deep
 | .nil,_=>And.intro (Nat.zero_le _) (fun l hl=>nomatch hl)
 | .cons k g m r,h=>by
  have hkn:k ∈ ns:=h ((k,g),m) (mcs ..)
  obtain ⟨g1,g2⟩:=rk_size hk (g:=g) fun x hx=>h x (mcm _ (mal _ hx))
  obtain ⟨r1,r2⟩:=rk_size hk (g:=r) fun x hx=>h x (mcm _ (mar _ hx))
  obtain ⟨k1,k2⟩:=hk k hkn
  have ip:(Lad.bths (rkT b ρ g)).parts<=P*g.parts:=Nat.le_trans (Lad.bths_parts _) g1
  have idp:(Lad.bths (rkT b ρ g)).deep<=D+g.deep:=Lad.bths_deep g2
  have lp:=Lad.lad_parts (b.wide k) (ρ k) (Lad.bths (rkT b ρ g))
  have tp:=Lad.tms_parts (lad (b.wide k) (ρ k) (Lad.bths (rkT b ρ g))) m
  have ld:=Lad.lad_deep (w:=b.wide k) (o:=ρ k) (l:=Lad.bths (rkT b ρ g)) (n:=D+g.deep) (by omega) idp
  have e1:(Gr.cons k g m r).parts=1+g.parts+r.parts:=rfl
  have e2:(Gr.cons k g m r).deep=max (1+g.deep) r.deep:=rfl
  refine ⟨?_,fun l hl=>?_⟩
  ·show (Lad.tms (lad (b.wide k) (ρ k) (Lad.bths (rkT b ρ g))) m).parts+((rkT b ρ r).map Lad.parts).sum<=_
   rw [e1,Nat.mul_add,Nat.mul_add,Nat.mul_one]
   omega
  ·rw [e2]
   rcases List.mem_cons.mp hl with rfl | hl
   ·have:=Lad.tms_deep (n:=D+g.deep+1) m ld
    omega
   ·have:=r2 l hl; omega
end Gr
theorem ledR_within {rs:List Ru} {r:Ru} (hr:r ∈ rs) {x:Tr × Int} (hx:x ∈ Ru.within r):x.1.1 ∈ ledR rs:=List.mem_flatMap.mpr ⟨r,hr,List.mem_map.mpr ⟨x,hx,rfl⟩⟩
theorem clm_congr {b:Bk} {ρ σ:Str->Lad} {r:Ru} (h:∀ x ∈ Ru.within r,ρ x.1.1=σ x.1.1):clm b ρ r=clm b σ r:=by
 unfold clm
 rw [Gr.rk_congr fun x hx=>h x (mal _ hx),Gr.rk_congr fun x hx=>h x (mar _ hx)]
def Bk.rules (b:Bk) (n:Str):List Ru:=match b.get n with
 | some k=>k.rs
 | none=>[]
def leadsTo (b:Bk) (k n:Str):Prop:=k ∈ adj b n/\EndK b n
theorem leads_wf (b:Bk):WellFounded (leadsTo b):=by
 have h1:∀ n,EndK b n->Acc (leadsTo b) n:=fun n h=>by
  induction h with
  | mk _ ih=>exact ⟨_,fun y hy=>ih y hy.1⟩
 exact ⟨fun n=>⟨n,fun y hy=>h1 y (hy.2.next hy.1)⟩⟩
open Classical in
noncomputable def ownF (b:Bk) (n:Str) (rec:∀ k,leadsTo b k n->Lad):Lad:=Lad.maxL Lad.uno ((b.rules n).map (clm b fun k=>if h:leadsTo b k n then rec k h else Lad.uno))
noncomputable def ownOf (b:Bk):Str->Lad:=(leads_wf b).fix (ownF b)
theorem ownOf_eq {b:Bk} (ok:b.Ok) {k:Kd} (hk:k ∈ b) (he:EndK b k.n):ownOf b k.n=Lad.maxL Lad.uno (k.rs.map (clm b (ownOf b))):=by
 unfold ownOf
 rw [WellFounded.fix_eq]
 unfold ownF
 have er:b.rules k.n=k.rs:=by unfold Bk.rules; rw [Bk.get_self ok.nd hk]
 rw [er]
 congr 1
 refine List.map_congr_left fun r hr=>clm_congr fun x hx=>?_
 have hl:leadsTo b x.1.1 k.n:=⟨by rw [adj_self ok hk]; exact ledR_within hr hx,he⟩
 rw [dif_pos hl]
theorem Gr.Fit.mono {b:Bk} {ρ:Str->Lad} {ns ms:List Str} (h:∀ n ∈ ns,n ∈ ms):∀ {g:Gr},Gr.Fit b ρ ns g->Gr.Fit b ρ ms g
 | .nil,_=>trivial
 | .cons k g m r,hf=>by
  obtain ⟨⟨h1,h2,h3,h4,h5,h6,h7,h8,h9⟩,hg,hr⟩:=hf
  exact ⟨⟨h _ h1,h2,h3,h4,h5,h6,h7,h8,h9⟩,Gr.Fit.mono h hg,Gr.Fit.mono h hr⟩
theorem filter_lt {α:Type} {p q:α->Bool}:∀ {l:List α},(∀ x ∈ l,p x=true->q x=true)->(∃ x ∈ l,q x=true/\p x=false)->(l.filter p).length < (l.filter q).length
 | [],_,⟨x,hx,_⟩=>nomatch hx
 | a::r,h,⟨x,hx,hq,hp⟩=>by
  have hr:∀ x ∈ r,p x=true->q x=true:=fun y hy=>h y (mcm _ hy)
  have le:∀ l:List α,(∀ x ∈ l,p x=true->q x=true)->(l.filter p).length<=(l.filter q).length:=by
   intro l
   induction l with
   | nil=>intro _; exact Nat.le_refl _
   | cons c s ih =>
    intro hc
    have:=ih fun y hy=>hc y (mcm _ hy)
    cases hpc:p c with
    | true =>
     rw [List.filter_cons_of_pos hpc,List.filter_cons_of_pos (hc c (mcs ..) hpc)]
     simpa using this
    | false =>
     rw [List.filter_cons_of_neg (by simp [hpc])]
     cases hqc:q c with
     | true=>rw [List.filter_cons_of_pos hqc,List.length_cons]; omega
     | false=>rw [List.filter_cons_of_neg (by simp [hqc])]; exact this
  rcases List.mem_cons.mp hx with rfl | hx
  ·rw [List.filter_cons_of_neg (by simp [hp]),List.filter_cons_of_pos hq,List.length_cons]
   have:=le r hr
   omega
  ·have ih:=filter_lt hr ⟨x,hx,hq,hp⟩
   cases hpc:p a with
   | true =>
    rw [List.filter_cons_of_pos hpc,List.filter_cons_of_pos (h a (mcs ..) hpc)]
    simpa using ih
   | false =>
    rw [List.filter_cons_of_neg (by simp [hpc])]
    cases hqc:q a with
    | true=>rw [List.filter_cons_of_pos hqc,List.length_cons]; omega
    | false=>rw [List.filter_cons_of_neg (by simp [hqc])]; exact ih
open Classical in
noncomputable def cntR (b:Bk) (n:Str):Nat:=(b.names.filter fun k=>decide (Rch b n k)).length
theorem cntR_lt {b:Bk} (ok:b.Ok) {n k:Str} (he:EndK b n) (hk:k ∈ adj b n):cntR b k < cntR b n:=by
 refine filter_lt (fun x _ hx=>?_) ⟨k,adj_names ok hk,?_,?_⟩
 ·simp only [decide_eq_true_eq] at hx ⊢
  exact Rch.cons hk hx
 ·simp only [decide_eq_true_eq]; exact .one hk
 ·simp only [decide_eq_false_iff_not]; exact (he.next hk).noring
theorem cntR_top {b:Bk} {n:Str} (he:EndK b n) (hn:n ∈ b.names):cntR b n < b.length:=by
 have h:=filter_lt (p:=fun k=>@decide (Rch b n k) (Classical.propDecidable _)) (q:=fun _=>true) (l:=b.names) (fun _ _ _=>rfl) ⟨n,hn,rfl,by simp only [decide_eq_false_iff_not]; exact he.noring⟩
 have e:(b.names.filter fun _=>true).length=b.length:=by rw [List.filter_eq_self.mpr (fun _ _=>rfl),List.length_map]
 rw [e] at h
 exact h
def Pm (m:Nat):Nat->Nat
 | 0=>2
 | c+1=>m*Pm m c+2
theorem Pm_two (m:Nat):∀ c,2<=Pm m c
 | 0=>Nat.le_refl _
 | c+1=>Nat.le_add_left _ _
theorem sum_at (e:Lad):∀ bs:List (Lad × Int),((bs.filter fun x=>decide (x.1=e)).map (·.2)).sum=Lad.sumAt bs e
 | []=>rfl
 | (y,m)::r=>by
  rw [Lad.sumAt_cons]
  by_cases he:y=e
  ·rw [List.filter_cons_of_pos (by simp [he]),List.map_cons,List.sum_cons,sum_at e r,if_pos he]
  ·rw [List.filter_cons_of_neg (by simp [he]),sum_at e r,if_neg he]; omega
theorem one_uno {K:PySem.W.Frag} {H:Hp} {Q:VK} {σ:L2.St} (q:∀ (x:V) (H':Hp),SB [] H H'->LA K H' x Lad.uno->Q x H'):tTup (tCons (tTup (tCons (tTup tNil) (tCons (tC (.int 1)) tNil))) tNil) σ H Q:=by
 refine ⟨by show 0<=sizeLine; decide,fun e ne=>?_⟩
 have u1:=SB.new (ps:=[]) ne (.tup [])
 have h1:upd H e (.tup []) e=some (.tup []):=upd_same
 generalize upd H e (.tup [])=H1 at u1 h1
 refine ⟨by show 2<=sizeLine; decide,fun t nt=>?_⟩
 have u2:=SB.new (ps:=[]) nt (.tup [.ref e,.int 1])
 have h2:upd H1 t (.tup [.ref e,.int 1]) t=some (.tup [.ref e,.int 1]):=upd_same
 generalize upd H1 t (.tup [.ref e,.int 1])=H2 at u2 h2
 refine ⟨by show 1<=sizeLine; decide,fun r nr=>?_⟩
 have u3:=SB.new (ps:=[]) nr (.tup [.ref t])
 exact q _ _ ((u1.trans u2).trans u3) (LA_one (SqT.of upd_same) (u3.sqT (SqT.of h2)) ((LA_nil (SqT.of h1)).sb (u2.trans u3)))
theorem Lad.maxL_snoc (x:Lad) (ys:List Lad) (y:Lad):Lad.maxL x (ys++[y])=if (Lad.maxL x ys).lt y=true then y else Lad.maxL x ys:=by
 unfold Lad.maxL
 rw [List.foldl_append]; rfl
def zk (ns:List Str) (us:List V):List (Key × V):=List.zipWith (fun (n:Str) (u:V)=>((Sum.inr n:Key),u)) ns us
theorem zk_keys:∀ {ns:List Str} {us:List V},us.length=ns.length->(zk ns us).map (·.1)=ns.map Sum.inr
 | [],[],_=>rfl
 | [],_::_,h=>by simp at h
 | _::_,[],h=>by simp at h
 | n::r,u::us,h=>by
  have:=zk_keys (ns:=r) (us:=us) (by simpa using h)
  show Sum.inr n::(zk r us).map (·.1)=_
  rw [this]; rfl
namespace Lad
def R (l:Lad):Prop:=∃ B:Int,1<=B/\l.Ok B
variable {a b c d l k o:Lad} {m n:Int} {w:Bool}
theorem R.bth (h:R l) (g:R k):R (l.bth k):=by
 obtain ⟨B,hB,h⟩:=h
 obtain ⟨C,hC,g⟩:=g
 exact ⟨B+C,by omega,bth_ok h g hB hC⟩
theorem R.bhd (h:R l) (g:R k):R (l.bhd k):=by
 obtain ⟨B,hB,h⟩:=h
 obtain ⟨C,hC,g⟩:=g
 exact ⟨B+C,by omega,bhd_ok h g hB hC⟩
theorem R.tms (h:R l) (hm:0<=m):R (l.tms m):=by
 obtain ⟨B,hB,h⟩:=h
 have:=Int.mul_nonneg (show 0<=B by omega) hm
 exact ⟨B*m+B,by omega,tms_ok h hm⟩
theorem R.abv (h:R l) (g:R k):R (l.abv k):=by
 obtain ⟨B,hB,h⟩:=h
 obtain ⟨C,hC,g⟩:=g
 exact ⟨B+(C+2),by omega,abv_ok h g hB hC⟩
theorem R.lad (h:R o) (g:R l):R (lad w o l):=by
 obtain ⟨B,hB,h⟩:=h
 obtain ⟨C,hC,g⟩:=g
 exact ⟨B+C,by omega,lad_ok h g hB hC⟩
theorem R.uno:R uno:=⟨2,by decide,uno_ok⟩
theorem R.ext (h:R l) (g:R k) (e:∀ x,S l x=S k x):l=k:=by
 obtain ⟨B,hB,h⟩:=h
 obtain ⟨C,hC,g⟩:=g
 exact Lad.ext h g e
theorem R.common:∀ {ls:List Lad},(∀ l ∈ ls,R l)->∃ B:Int,1<=B/\∀ l ∈ ls,l.Ok B
 | [],_=>⟨1,by decide,fun l h=>nomatch h⟩
 | x::r,h=>by
  obtain ⟨B,hB,hx⟩:=h x (mcs ..)
  obtain ⟨C,hC,hr⟩:=R.common (ls:=r) fun l hl=>h l (mcm _ hl)
  refine ⟨B+C,by omega,fun l hl=>?_⟩
  rcases List.mem_cons.mp hl with e | e
  ·rw [e]; exact hx.mono (by omega)
  ·exact (hr l e).mono (by omega)
theorem sum_len_le {B:Int} (hB:0<=B) (x:Lad):∀ {ls:List Lad},(∀ l ∈ ls,l.Ok B)->(ls.map fun l=>S l x).sum<=ls.length*B
 | [],_=>by simp
 | y::r,h=>by
  have h1:=ok_pos (h y (mcs ..)) hB x
  have h2:=sum_len_le hB x (ls:=r) fun l hl=>h l (mcm _ hl)
  rw [List.map_cons,List.sum_cons,List.length_cons]
  have:((r.length+1:Nat):Int)*B=r.length*B+B:=by rw [Int.natCast_add,Int.add_mul]; simp
  omega
theorem R.bths {ls:List Lad} (h:∀ l ∈ ls,R l):R (bths ls):=by
 obtain ⟨B,hB,hb⟩:=R.common h
 have hl:(0:Int)<=ls.length*B:=Int.mul_nonneg (Int.natCast_nonneg _) (by omega)
 exact ⟨ls.length*B+B+1,by omega,bths_ok hb (by omega) (by omega) fun x=>by have:=sum_len_le (by omega) x hb; omega⟩
theorem R.exp {e:Lad} {m:Int} {r:Lad} (h:R (.cons e m r)):R e:=by
 obtain ⟨B,hB,h⟩:=h
 exact ⟨B,hB,h.1⟩
theorem spd_cons {e:Lad} {m:Int} {r:Lad} (h:l ≠ .nil):spd (.cons e m r) l=.cons (e.bhd l) 1 .nil:=by
 cases l with
 | nil=>exact absurd rfl h
 | cons _ _ _=>rfl
end Lad
namespace Gr
variable {b:Bk} {ρ σ:Str->Lad} {C:Int}
def RN (ρ:Str->Lad) (g:Gr):Prop:=∀ x ∈ g.within,Lad.R (ρ x.1.1)/\ρ x.1.1 ≠ .nil
theorem RN.cons {k:Str} {g r:Gr} {m:Int} (h:RN ρ (.cons k g m r)):(Lad.R (ρ k)/\ρ k ≠ .nil)/\RN ρ g/\RN ρ r :=
 ⟨h ((k,g),m) (mcs ..),fun x hx=>h x (mcm _ (mal _ hx)),fun x hx=>h x (mcm _ (mar _ hx))⟩
theorem rkT_R:∀ {g:Gr},g.Ok C->RN ρ g->∀ l ∈ rkT b ρ g,Lad.R l
 | .nil,_,_,l,hl=>nomatch hl
 | .cons k g m r,ho,h,l,hl=>by
  obtain ⟨h1,h2,h3⟩:=h.cons
  obtain ⟨o1,o2,o3,o4,o5,_⟩:=ho
  rcases List.mem_cons.mp hl with e | e
  ·rw [e]; exact (h1.1.lad (Lad.R.bths (rkT_R o2 h2))).tms (by omega)
  ·exact rkT_R o5 h3 l e
theorem rk_R {g:Gr} (ho:g.Ok C) (h:RN ρ g):Lad.R (rk b ρ g):=Lad.R.bths (rkT_R ho h)
theorem RN.named {ns:List Str} {g:Gr} (h:∀ n ∈ ns,Lad.R (ρ n)/\ρ n ≠ .nil) (hn:Named ns g):RN ρ g:=fun x hx=>h _ (hn x hx)
end Gr
theorem clm_R {b:Bk} {ρ:Str->Lad} {ns:List Str} {r:Ru} (rok:RuOk r) (h:∀ n ∈ ns,Lad.R (ρ n)/\ρ n ≠ .nil) (h1:Gr.Named ns r.1) (h2:Gr.Named ns r.2):Lad.R (clm b ρ r):=(Gr.rk_R rok.1 (Gr.RN.named h h1)).abv (Gr.rk_R rok.2.1 (Gr.RN.named h h2))
theorem Bk.Ok.named {b:Bk} (ok:b.Ok) {k:Kd} (hk:k ∈ b) {r:Ru} (hr:r ∈ k.rs):RuOk r/\Gr.Named b.names r.1/\Gr.Named b.names r.2:=by
 obtain ⟨h1,h2⟩:=(ok.kd k hk).2.2 r hr
 exact ⟨h1,fun x hx=>h2 x (mal _ hx),fun x hx=>h2 x (mar _ hx)⟩
theorem ownOf_R {b:Bk} (ok:b.Ok) {n:Str} (he:EndK b n):n ∈ b.names->Lad.R (ownOf b n)/\ownOf b n ≠ .nil:=by
 induction he with
 | mk h ih =>
  rename_i n
  intro hn
  obtain ⟨k,eg⟩:=Bk.get_of hn
  obtain ⟨hk,rfl⟩:=Bk.get_some eg
  have eq:=ownOf_eq ok hk (.mk h)
  have hadj:=adj_self ok hk
  have ne:ownOf b k.n ≠ .nil:=fun z=>by
   have:=Lad.maxL_ge (k.rs.map (clm b (ownOf b))) Lad.uno Lad.uno (mcs ..)
   rw [<- eq,z] at this
   rw [Lad.lt_nil_cons] at this; cases this
  refine ⟨?_,ne⟩
  rw [eq]
  rcases List.mem_cons.mp (Lad.maxL_mem (k.rs.map (clm b (ownOf b))) Lad.uno) with e | e
  ·rw [e]; exact Lad.R.uno
  ·obtain ⟨r,hr,e⟩:=List.mem_map.mp e
   rw [<- e]
   have nm:Gr.Named (adj b k.n) r.1/\Gr.Named (adj b k.n) r.2:=⟨fun x hx=>by rw [hadj]; exact ledR_within hr (mal _ hx),fun x hx=>by rw [hadj]; exact ledR_within hr (mar _ hx)⟩
   exact clm_R (ok.named hk hr).1 (fun n hn=>ih n hn (adj_names ok hn)) nm.1 nm.2
namespace Gr
variable {b:Bk} {ρ σ:Str->Lad} {C:Int} {ns:List Str}
theorem rk_numsX {x:Nat} (hk:∀ n ∈ ns,(ρ n).Ok (2 ^ x)):∀ {g:Gr},Named ns g->g.Ok (2 ^ 119)->(∀ l ∈ rkT b ρ g,l.Ok (2 ^ (x+121*g.parts)))/\∀ y,((rkT b ρ g).map fun l=>Lad.S l y).sum < 2 ^ (x+121*g.parts)
 | .nil,_,_=>And.intro (fun l hl=>nomatch hl) (fun y=>by
  show (0:Int) < _
  have:=two_pos (x+121*Gr.nil.parts); omega)
 | .cons k g m r,h,ho=>by
  obtain ⟨_,hg,hm1,hm2,hr,_⟩:=ho
  have hkn:k ∈ ns:=h ((k,g),m) (mcs ..)
  obtain ⟨g1,g2⟩:=rk_numsX hk (g:=g) (fun x hx=>h x (mcm _ (mal _ hx))) hg
  obtain ⟨r1,r2⟩:=rk_numsX hk (g:=r) (fun x hx=>h x (mcm _ (mar _ hx))) hr
  have e1:(Gr.cons k g m r).parts=1+g.parts+r.parts:=rfl
  have p0:=two_pos (x+121*g.parts)
  have px:=two_pos x
  have io:(Lad.bths (rkT b ρ g)).Ok (2 ^ (x+121*g.parts)):=Lad.bths_ok g1 (by omega) (Int.le_refl _) g2
  have lo:=Lad.lad_ok (w:=b.wide k) (hk k hkn) io px p0
  have m1:=two_mono (show x<=x+121*g.parts by omega)
  have lo2:(lad (b.wide k) (ρ k) (Lad.bths (rkT b ρ g))).Ok (2 ^ (x+121*g.parts+1)):=lo.mono (by rw [two_succ]; omega)
  have to:=Lad.tms_ok lo2 (show 0<=m by omega)
  have q0:=two_pos (x+121*g.parts+1)
  have hb:2 ^ (x+121*g.parts+1)*m+2 ^ (x+121*g.parts+1)<=2 ^ (x+121*g.parts+120):=by
   have:(2:Int) ^ (x+121*g.parts+120)=2 ^ (x+121*g.parts+1)*2 ^ 119:=by rw [<- Int.pow_add]
   rw [this]
   have h2:(2:Int) ^ (x+121*g.parts+1)*(m+1)<=2 ^ (x+121*g.parts+1)*2 ^ 119:=Int.mul_le_mul_of_nonneg_left (by omega) (by omega)
   rw [Int.mul_add,Int.mul_one] at h2
   exact h2
  have to2:=to.mono hb
  have w1:=two_mono (show x+121*g.parts+120<=x+121*(1+g.parts+r.parts)-1 by omega)
  have w2:=two_mono (show x+121*r.parts<=x+121*(1+g.parts+r.parts)-1 by omega)
  have w3:=two_succ (x+121*(1+g.parts+r.parts)-1)
  rw [show x+121*(1+g.parts+r.parts)-1+1=x+121*(1+g.parts+r.parts) by omega] at w3
  have w0:=two_pos (x+121*(1+g.parts+r.parts)-1)
  rw [e1]
  refine ⟨fun l hl=>?_,fun y=>?_⟩
  ·rcases List.mem_cons.mp hl with rfl | hl
   ·exact to2.mono (by omega)
   ·exact (r1 l hl).mono (by omega)
  ·show Lad.S (Lad.tms (lad (b.wide k) (ρ k) (Lad.bths (rkT b ρ g))) m) y+((rkT b ρ r).map fun l=>Lad.S l y).sum < _
   have s2:=r2 y
   have s3:Lad.S (Lad.tms (lad (b.wide k) (ρ k) (Lad.bths (rkT b ρ g))) m) y < 2 ^ (x+121*g.parts+120)\/Lad.S (Lad.tms (lad (b.wide k) (ρ k) (Lad.bths (rkT b ρ g))) m) y<=0:=by
    rcases Lad.S_cases to2 y with ⟨h1,_⟩ | ⟨mm,_,h2,_,h4⟩
    ·right; omega
    ·left; omega
   have w4:=two_pos (x+121*g.parts+120)
   rcases s3 with s3 | s3 <;> omega
end Gr
namespace Gr
variable {b:Bk} {ρ σ:Str->Lad} {C:Int} {ns:List Str}
theorem rk_numsY {x:Nat} (hk:∀ n ∈ ns,(ρ n).Ok (2 ^ x)):∀ {g:Gr},Named ns g->g.Ok (2 ^ 30)->(∀ l ∈ rkT b ρ g,l.Ok (2 ^ (x+32*g.parts)))/\∀ y,((rkT b ρ g).map fun l=>Lad.S l y).sum < 2 ^ (x+32*g.parts)
 | .nil,_,_=>And.intro (fun l hl=>nomatch hl) (fun y=>by
  show (0:Int) < _
  have:=two_pos (x+32*Gr.nil.parts); omega)
 | .cons k g m r,h,ho=>by
  obtain ⟨_,hg,hm1,hm2,hr,_⟩:=ho
  have hkn:k ∈ ns:=h ((k,g),m) (mcs ..)
  obtain ⟨g1,g2⟩:=rk_numsY hk (g:=g) (fun x hx=>h x (mcm _ (mal _ hx))) hg
  obtain ⟨r1,r2⟩:=rk_numsY hk (g:=r) (fun x hx=>h x (mcm _ (mar _ hx))) hr
  have e1:(Gr.cons k g m r).parts=1+g.parts+r.parts:=rfl
  have p0:=two_pos (x+32*g.parts)
  have px:=two_pos x
  have io:(Lad.bths (rkT b ρ g)).Ok (2 ^ (x+32*g.parts)):=Lad.bths_ok g1 (by omega) (Int.le_refl _) g2
  have lo:=Lad.lad_ok (w:=b.wide k) (hk k hkn) io px p0
  have m1:=two_mono (show x<=x+32*g.parts by omega)
  have lo2:(lad (b.wide k) (ρ k) (Lad.bths (rkT b ρ g))).Ok (2 ^ (x+32*g.parts+1)):=lo.mono (by rw [two_succ]; omega)
  have to:=Lad.tms_ok lo2 (show 0<=m by omega)
  have q0:=two_pos (x+32*g.parts+1)
  have hb:2 ^ (x+32*g.parts+1)*m+2 ^ (x+32*g.parts+1)<=2 ^ (x+32*g.parts+31):=by
   have:(2:Int) ^ (x+32*g.parts+31)=2 ^ (x+32*g.parts+1)*2 ^ 30:=by rw [<- Int.pow_add]
   rw [this]
   have h2:(2:Int) ^ (x+32*g.parts+1)*(m+1)<=2 ^ (x+32*g.parts+1)*2 ^ 30:=Int.mul_le_mul_of_nonneg_left (by omega) (by omega)
   rw [Int.mul_add,Int.mul_one] at h2
   exact h2
  have to2:=to.mono hb
  have w1:=two_mono (show x+32*g.parts+31<=x+32*(1+g.parts+r.parts)-1 by omega)
  have w2:=two_mono (show x+32*r.parts<=x+32*(1+g.parts+r.parts)-1 by omega)
  have w3:=two_succ (x+32*(1+g.parts+r.parts)-1)
  rw [show x+32*(1+g.parts+r.parts)-1+1=x+32*(1+g.parts+r.parts) by omega] at w3
  have w0:=two_pos (x+32*(1+g.parts+r.parts)-1)
  rw [e1]
  refine ⟨fun l hl=>?_,fun y=>?_⟩
  ·rcases List.mem_cons.mp hl with rfl | hl
   ·exact to2.mono (by omega)
   ·exact (r1 l hl).mono (by omega)
  ·show Lad.S (Lad.tms (lad (b.wide k) (ρ k) (Lad.bths (rkT b ρ g))) m) y+((rkT b ρ r).map fun l=>Lad.S l y).sum < _
   have s2:=r2 y
   have s3:Lad.S (Lad.tms (lad (b.wide k) (ρ k) (Lad.bths (rkT b ρ g))) m) y < 2 ^ (x+32*g.parts+31)\/Lad.S (Lad.tms (lad (b.wide k) (ρ k) (Lad.bths (rkT b ρ g))) m) y<=0:=by
    rcases Lad.S_cases to2 y with ⟨h1,_⟩ | ⟨mm,_,h2,_,h4⟩
    ·right; omega
    ·left; omega
   have w4:=two_pos (x+32*g.parts+31)
   rcases s3 with s3 | s3 <;> omega
theorem rk_fitY {P D x:Nat} (hk:∀ n ∈ ns,n ∈ b.names/\ρ n ≠ .nil/\(ρ n).parts<=P/\(ρ n).deep<=D/\(ρ n).Ok (2 ^ x)) (hP:1<=P):∀ {g:Gr},Named ns g->g.Ok (2 ^ 30)->P*g.parts<=390->D+g.deep<=24->x+32*g.parts<=2000->Fit b ρ ns g
 | .nil,_,_,_,_,_=>trivial
 | .cons k g m r,h,ho,hp,hd,hx=>by
  have hP':∀ n ∈ ns,(ρ n).parts<=P/\(ρ n).deep<=D:=fun n hn=>⟨(hk n hn).2.2.1,(hk n hn).2.2.2.1⟩
  have hX':∀ n ∈ ns,(ρ n).Ok (2 ^ x):=fun n hn=>(hk n hn).2.2.2.2
  have nm:2 ^ 30<=(2:Int) ^ 2000:=two_mono (by decide)
  obtain ⟨hkn,hnn⟩:k ∈ ns/\(Named ns g/\Named ns r):=⟨h ((k,g),m) (mcs ..),fun x hx=>h x (mcm _ (mal _ hx)),fun x hx=>h x (mcm _ (mar _ hx))⟩
  obtain ⟨ok0,hg,hm1,hm2,hr,hrise⟩:=ho
  have ho:(Gr.cons k g m r).Ok (2 ^ 30):=⟨ok0,hg,hm1,hm2,hr,hrise⟩
  have e1:(Gr.cons k g m r).parts=1+g.parts+r.parts:=rfl
  have e2:(Gr.cons k g m r).deep=max (1+g.deep) r.deep:=rfl
  rw [e1,Nat.mul_add,Nat.mul_add,Nat.mul_one] at hp
  rw [e1] at hx
  obtain ⟨s1,s2⟩:=rk_size hP' h
  obtain ⟨g1,g2⟩:=rk_size hP' hnn.1
  obtain ⟨n1,n2⟩:=rk_numsY hX' hnn.1 hg
  have p0:=two_pos (x+32*g.parts)
  have px:=two_pos x
  have io:(Lad.bths (rkT b ρ g)).Ok (2 ^ (x+32*g.parts)):=Lad.bths_ok n1 (by omega) (Int.le_refl _) n2
  have lo:=(Lad.lad_ok (w:=b.wide k) (hX' k hkn) io px p0)
  have m1:=two_mono (show x<=x+32*g.parts by omega)
  have m2:=two_mono (show x+32*g.parts+1<=2000 by omega)
  have m3:=two_succ (x+32*g.parts)
  obtain ⟨kb,kne,kp,kd,kx⟩:=hk k hkn
  have num:∀ {l:Lad},l.Ok (2 ^ 2000)->∀ p ∈ l.ps,0<=p.2/\p.2 < 2 ^ 2000:=fun hl p hp=>by
   have:=(Lad.ok_iff.mp hl).1 p hp
   exact ⟨by omega,this.2.2⟩
  have ip:(Lad.bths (rkT b ρ g)).parts<=P*g.parts:=Nat.le_trans (Lad.bths_parts _) g1
  have idp:(Lad.bths (rkT b ρ g)).deep<=D+g.deep:=Lad.bths_deep g2
  have lp:=Lad.lad_parts (b.wide k) (ρ k) (Lad.bths (rkT b ρ g))
  have ld:=Lad.lad_deep (w:=b.wide k) (o:=ρ k) (l:=Lad.bths (rkT b ρ g)) (n:=D+g.deep) (by omega) idp
  refine ⟨⟨hkn,kb,kne,⟨by omega,by omega,num (kx.mono (by omega))⟩,⟨by show (Lad.bths (rkT b ρ g)).deep<=25; omega,by show (Lad.bths (rkT b ρ g)).parts<=900; omega,num (io.mono (by omega))⟩,⟨by show (lad (b.wide k) (ρ k) (Lad.bths (rkT b ρ g))).deep<=25; omega,by show (lad (b.wide k) (ρ k) (Lad.bths (rkT b ρ g))).parts<=900; omega,num (lo.mono (by omega))⟩,by omega,by omega,?_⟩,rk_fitY hk hP hnn.1 hg (by omega) (by omega) (by omega),rk_fitY hk hP hnn.2 hr (by omega) (by omega) (by omega)⟩
  have key:∀ ls:List Lad,(ls.flatMap Lad.ps).length<=(ls.map Lad.parts).sum:=by
   intro ls
   induction ls with
   | nil=>exact Nat.le_refl _
   | cons l r ih =>
    rw [List.flatMap_cons,List.length_append,List.map_cons,List.sum_cons,Lad.ps_length]
    have:=l.len_parts
    omega
  have:=key (rkT b ρ (.cons k g m r))
  rw [e1,Nat.mul_add,Nat.mul_add,Nat.mul_one] at s1
  exact Nat.le_trans (Nat.le_trans this s1) (by omega)
end Gr
theorem clm_bndY {b:Bk} {ρ:Str->Lad} {ns:List Str} {P D x m:Nat} {r:Ru} (hk:∀ n ∈ ns,(ρ n).parts<=P/\(ρ n).deep<=D) (hx:∀ n ∈ ns,(ρ n).Ok (2 ^ x)) (h1:Gr.Named ns r.1) (h2:Gr.Named ns r.2) (o1:r.1.Ok (2 ^ 30)) (o2:r.2.Ok (2 ^ 30)) (hs:r.1.parts+r.2.parts<=m) (hD:2<=D) :
  (clm b ρ r).parts<=m*P+2/\(clm b ρ r).deep<=D+m/\(clm b ρ r).Ok (2 ^ (x+32*m+2))/\(Gr.rk b ρ r.1).deep<=D+m/\(Gr.rk b ρ r.2).deep<=D+m/\(Gr.rk b ρ r.1).parts<=m*P/\(Gr.rk b ρ r.2).parts<=m*P:=by
 obtain ⟨a1,a2⟩:=Gr.rk_size (b:=b) hk h1
 obtain ⟨b1,b2⟩:=Gr.rk_size (b:=b) hk h2
 obtain ⟨c1,c2⟩:=Gr.rk_numsY (b:=b) hx h1 o1
 obtain ⟨d1,d2⟩:=Gr.rk_numsY (b:=b) hx h2 o2
 have w1:=within_deep r.1
 have w2:=within_deep r.2
 have p1:(Gr.rk b ρ r.1).parts<=P*r.1.parts:=Nat.le_trans (Lad.bths_parts _) a1
 have p2:(Gr.rk b ρ r.2).parts<=P*r.2.parts:=Nat.le_trans (Lad.bths_parts _) b1
 have q1:(Gr.rk b ρ r.1).deep<=D+r.1.deep:=Lad.bths_deep a2
 have q2:(Gr.rk b ρ r.2).deep<=D+r.2.deep:=Lad.bths_deep b2
 have e1:=two_pos (x+32*r.1.parts)
 have e2:=two_pos (x+32*r.2.parts)
 have k1:(Gr.rk b ρ r.1).Ok (2 ^ (x+32*r.1.parts)):=Lad.bths_ok c1 (by omega) (Int.le_refl _) c2
 have k2:(Gr.rk b ρ r.2).Ok (2 ^ (x+32*r.2.parts)):=Lad.bths_ok d1 (by omega) (Int.le_refl _) d2
 have ko:=Lad.abv_ok k1 k2 e1 e2
 have hm:P*r.1.parts+P*r.2.parts<=m*P:=by
  rw [<- Nat.mul_add,Nat.mul_comm m P]
  exact Nat.mul_le_mul_left _ hs
 have ap:=Lad.abv_parts (Gr.rk b ρ r.1) (Gr.rk b ρ r.2)
 have ad:=Lad.abv_deep (n:=D+m) (l:=Gr.rk b ρ r.1) (k:=Gr.rk b ρ r.2) (by omega) (by omega) (by omega)
 have m1:=two_mono (show x+32*r.1.parts<=x+32*m by omega)
 have m2:=two_mono (show x+32*r.2.parts<=x+32*m by omega)
 have m3:=two_succ (x+32*m)
 have m4:(2:Int) ^ (x+32*m+2)=2*2 ^ (x+32*m+1):=two_succ (x+32*m+1)
 have m5:=two_pos (x+32*m)
 exact ⟨by unfold clm; omega,ad,ko.mono (by omega),by omega,by omega,by omega,by omega⟩
structure BndY (m c:Nat) (l:Lad):Prop where
 ne:l ≠ .nil
 parts:l.parts<=Pm m c
 deep:l.deep<=2+m*c
 ok:l.Ok (2 ^ (2+(32*m+2)*c))
theorem own_bndY {b:Bk} (ok:b.Ok) {m:Nat} (hm:∀ k ∈ b,EndK b k.n->∀ r ∈ k.rs,r.1.Ok (2 ^ 30)/\r.2.Ok (2 ^ 30)/\r.1.parts+r.2.parts<=m):∀ (c:Nat) (k:Kd),k ∈ b->EndK b k.n->cntR b k.n<=c->BndY m c (ownOf b k.n)
 | c,k,hk,he,hc=>by
  have hadj:=adj_self ok hk
  have nm:∀ r ∈ k.rs,Gr.Named (adj b k.n) r.1/\Gr.Named (adj b k.n) r.2:=fun r hr=>⟨fun x hx=>by rw [hadj]; exact ledR_within hr (mal _ hx),fun x hx=>by rw [hadj]; exact ledR_within hr (mar _ hx)⟩
  have eq:=ownOf_eq ok hk he
  have ne:ownOf b k.n ≠ .nil:=fun z=>by
   have:=Lad.maxL_ge (k.rs.map (clm b (ownOf b))) Lad.uno Lad.uno (mcs ..)
   rw [<- eq,z] at this
   rw [Lad.lt_nil_cons] at this; cases this
  have p2:=Pm_two m c
  have x0:(2:Int)<=2 ^ (2+(32*m+2)*c):=by
   have:=two_mono (show 1<=2+(32*m+2)*c by omega)
   exact this
  have ofClm:(∀ r ∈ k.rs,(clm b (ownOf b) r).parts<=Pm m c/\(clm b (ownOf b) r).deep<=2+m*c/\(clm b (ownOf b) r).Ok (2 ^ (2+(32*m+2)*c)))->BndY m c (ownOf b k.n):=fun h=>by
   refine ⟨ne,?_,?_,?_⟩ <;> rw [eq] <;> rcases List.mem_cons.mp (Lad.maxL_mem (k.rs.map (clm b (ownOf b))) Lad.uno) with e | e
   ·rw [e]; show 1<=_; omega
   ·obtain ⟨r,hr,e⟩:=List.mem_map.mp e
    rw [<- e]; exact (h r hr).1
   ·rw [e]; show 1<=_; omega
   ·obtain ⟨r,hr,e⟩:=List.mem_map.mp e
    rw [<- e]; exact (h r hr).2.1
   ·rw [e]; exact Lad.uno_ok.mono x0
   ·obtain ⟨r,hr,e⟩:=List.mem_map.mp e
    rw [<- e]; exact (h r hr).2.2
  cases c with
  | zero =>
   have h0:adj b k.n=[]:=by
    cases ha:adj b k.n with
    | nil=>rfl
    | cons y ys =>
     have:=cntR_lt ok he (k:=y) (by rw [ha]; exact mcs ..)
     omega
   refine ofClm fun r hr=>?_
   obtain ⟨n1,n2⟩:=nm r hr
   rw [h0] at n1 n2
   have nil_of:∀ g:Gr,Gr.Named [] g->g=.nil:=fun g h=>by
    cases g with
    | nil=>rfl
    | cons k g m r=>exact absurd (h ((k,g),m) (mcs ..)) (by simp)
   have e:r=(.nil,.nil):=Prod.ext (nil_of _ n1) (nil_of _ n2)
   rw [e,clm_no]
   exact ⟨by show 1<=2; decide,by show 1<=_; omega,Lad.uno_ok.mono x0⟩
  | succ c =>
   have hch:∀ n ∈ adj b k.n,BndY m c (ownOf b n):=fun n hn=>by
    have hlt:=cntR_lt ok he hn
    obtain ⟨kd,eg⟩:=Bk.get_of (adj_names ok hn)
    obtain ⟨hkd,rfl⟩:=Bk.get_some eg
    exact own_bndY ok hm c kd hkd (he.next hn) (by omega)
   refine ofClm fun r hr=>?_
   obtain ⟨n1,n2⟩:=nm r hr
   obtain ⟨o1,o2,hs⟩:=hm k hk he r hr
   obtain ⟨c1,c2,c3,_⟩:=clm_bndY (b:=b) (ρ:=ownOf b) (P:=Pm m c) (D:=2+m*c) (x:=2+(32*m+2)*c) (fun n hn=>⟨(hch n hn).parts,(hch n hn).deep⟩) (fun n hn=>(hch n hn).ok) n1 n2 o1 o2 hs (by omega)
   refine ⟨c1,by rw [Nat.mul_succ]; omega,?_⟩
   have:2+(32*m+2)*(c+1)=2+(32*m+2)*c+32*m+2:=by rw [Nat.mul_succ]; omega
   rw [this]; exact c3
theorem own_goodY {b:Bk} (ok:b.Ok) {m:Nat} (hm:∀ k ∈ b,EndK b k.n->∀ r ∈ k.rs,r.1.Ok (2 ^ 30)/\r.2.Ok (2 ^ 30)/\r.1.parts+r.2.parts<=m) (hP:m*Pm m (b.length-2)<=390) (hD:2+m*(b.length-2)+m<=24) (hX:2+(32*m+2)*(b.length-2)+32*m<=2000):OwnR b (ownOf b)/\∀ n ∈ b.names,EndK b n->BndY m (b.length-1) (ownOf b n):=by
 have hb:∀ n ∈ b.names,EndK b n->BndY m (b.length-1) (ownOf b n):=fun n hn he=>by
  obtain ⟨kd,eg⟩:=Bk.get_of hn
  obtain ⟨hkd,rfl⟩:=Bk.get_some eg
  have:=cntR_top he hn
  exact own_bndY ok hm _ kd hkd he (by omega)
 have hch:∀ k ∈ b,EndK b k.n->∀ n ∈ adj b k.n,BndY m (b.length-2) (ownOf b n):=fun k hk he n hn=>by
  obtain ⟨kd,eg⟩:=Bk.get_of (adj_names ok hn)
  obtain ⟨hkd,rfl⟩:=Bk.get_some eg
  have h1:=cntR_lt ok he hn
  have h2:=cntR_top he (List.mem_map.mpr ⟨k,hk,rfl⟩)
  exact own_bndY ok hm _ kd hkd (he.next hn) (by omega)
 have p2:=Pm_two m (b.length-2)
 refine ⟨⟨fun k hk he=>ownOf_eq ok hk he,fun k hk he ns hns r hr=>?_,fun k hk he r hr=>?_⟩,hb⟩
 ·have hadj:=adj_self ok hk
  have n1:Gr.Named (adj b k.n) r.1:=fun x hx=>by rw [hadj]; exact ledR_within hr (mal _ hx)
  have n2:Gr.Named (adj b k.n) r.2:=fun x hx=>by rw [hadj]; exact ledR_within hr (mar _ hx)
  obtain ⟨o1,o2,hs⟩:=hm k hk he r hr
  have hc:=hch k hk he
  obtain ⟨_,_,_,d1,d2,q1,q2⟩:=clm_bndY (b:=b) (ρ:=ownOf b) (P:=Pm m (b.length-2)) (D:=2+m*(b.length-2)) (x:=2+(32*m+2)*(b.length-2)) (fun n hn=>⟨(hc n hn).parts,(hc n hn).deep⟩) (fun n hn=>(hc n hn).ok) n1 n2 o1 o2 hs (by omega)
  have w1:=within_deep r.1
  have w2:=within_deep r.2
  have hP1:Pm m (b.length-2)*r.1.parts<=390:=Nat.le_trans (Nat.mul_le_mul_left _ (show r.1.parts<=m by omega)) (by rw [Nat.mul_comm]; exact hP)
  have hP2:Pm m (b.length-2)*r.2.parts<=390:=Nat.le_trans (Nat.mul_le_mul_left _ (show r.2.parts<=m by omega)) (by rw [Nat.mul_comm]; exact hP)
  have hk':∀ n ∈ adj b k.n,n ∈ b.names/\ownOf b n ≠ .nil/\(ownOf b n).parts<=Pm m (b.length-2)/\(ownOf b n).deep<=2+m*(b.length-2)/\(ownOf b n).Ok (2 ^ (2+(32*m+2)*(b.length-2))):=fun n hn=>⟨adj_names ok hn,(hc n hn).ne,(hc n hn).parts,(hc n hn).deep,(hc n hn).ok⟩
  exact ⟨(Gr.rk_fitY hk' (by omega) n1 o1 hP1 (by omega) (by omega)).mono hns,(Gr.rk_fitY hk' (by omega) n2 o2 hP2 (by omega) (by omega)).mono hns,by omega,by omega,by omega,by omega⟩
 ·have hadj:=adj_self ok hk
  have n1:Gr.Named (adj b k.n) r.1:=fun x hx=>by rw [hadj]; exact ledR_within hr (mal _ hx)
  have n2:Gr.Named (adj b k.n) r.2:=fun x hx=>by rw [hadj]; exact ledR_within hr (mar _ hx)
  obtain ⟨o1,o2,hs⟩:=hm k hk he r hr
  have hc:=hch k hk he
  obtain ⟨_,d0,_⟩:=clm_bndY (b:=b) (ρ:=ownOf b) (P:=Pm m (b.length-2)) (D:=2+m*(b.length-2)) (x:=2+(32*m+2)*(b.length-2)) (fun n hn=>⟨(hc n hn).parts,(hc n hn).deep⟩) (fun n hn=>(hc n hn).ok) n1 n2 o1 o2 hs (by omega)
  omega
def potK (c:Addr) (a l s:Int):List (Key × V):=[(Sum.inr "cells",V.ref c),(Sum.inr "at",V.int a),(Sum.inr "left",V.int l),(Sum.inr "seed",V.int s)]
theorem pot_cells (c:Addr) (a l s:Int):valV (potK c a l s) (Sum.inr "cells")=some (.ref c):=rfl
theorem pot_at (c:Addr) (a l s:Int):valV (potK c a l s) (Sum.inr "at")=some (.int a):=rfl
theorem pot_left (c:Addr) (a l s:Int):valV (potK c a l s) (Sum.inr "left")=some (.int l):=rfl
theorem pot_seed (c:Addr) (a l s:Int):valV (potK c a l s) (Sum.inr "seed")=some (.int s):=rfl
theorem put_at (c:Addr) (a l s x:Int):putK (potK c a l s) (Sum.inr "at") (.int x)=potK c x l s:=rfl
def PotA (H:Hp) (p:Addr):Prop:=∃ (c:Addr) (ns:List Int) (a l s:Int),H p=some (.dK (potK c a l s))/\H c=some (.lst (ns.map V.int))/\ns.length<=63/\0<=a/\a<=ns.length/\(0<=l/\l < 10 ^ 320)/\(0<=s/\s < 2 ^ 31)
def spPot (K:PySem.W.Frag):Sp:=fun vs H Q _=>∃ (a:Addr) (ns:List Int),vs=[.ref a]/\SqL K H a (ns.map V.int)/\ns.length<=63/\∀ (p:Addr) (H':Hp),SB [] H H'->H p=none->PotA H' p->Q (.ref p) H'
namespace Lad
def mrg:Lad->Lad->Lad
 | .nil,k=>k
 | .cons e m r,.nil=>.cons e m r
 | .cons e m r,.cons f n s=>if e=f then .cons e (m+n) (mrg r s) else if e.lt f=true then .cons f n (mrg (.cons e m r) s) else .cons e m (mrg r (.cons f n s))
termination_by l k=>l.len+k.len
decreasing_by all_goals (simp only [Lad.len]; omega)
theorem mrg_nil_r (l:Lad):mrg l .nil=l:=by cases l <;> simp [mrg]
theorem mrg_nil_l (l:Lad):mrg .nil l=l:=by rw [mrg]
theorem mrg_cons (e f:Lad) (m n:Int) (r s:Lad):mrg (.cons e m r) (.cons f n s)=if e=f then .cons e (m+n) (mrg r s) else if e.lt f=true then .cons f n (mrg (.cons e m r) s) else .cons e m (mrg r (.cons f n s)):=by rw [mrg]
theorem mrg_mem {l k:Lad}:∀ p ∈ (mrg l k).ps,(∃ q ∈ l.ps,q.1=p.1)\/∃ q ∈ k.ps,q.1=p.1:=by
 fun_induction mrg l k with
 | case1 k=>exact fun p hp=>.inr ⟨p,hp,rfl⟩
 | case2 e m r=>exact fun p hp=>.inl ⟨p,hp,rfl⟩
 | case3 m r e n s ih =>
  intro p hp
  rcases List.mem_cons.mp hp with h | h
  ·exact .inl ⟨(e,m),mcs ..,by rw [h]⟩
  ·rcases ih p h with ⟨q,hq,z⟩ | ⟨q,hq,z⟩
   ·exact .inl ⟨q,mcm _ hq,z⟩
   ·exact .inr ⟨q,mcm _ hq,z⟩
 | case4 e m r f n s h1 h2 ih =>
  intro p hp
  rcases List.mem_cons.mp hp with h | h
  ·exact .inr ⟨(f,n),mcs ..,by rw [h]⟩
  ·rcases ih p h with ⟨q,hq,z⟩ | ⟨q,hq,z⟩
   ·exact .inl ⟨q,hq,z⟩
   ·exact .inr ⟨q,mcm _ hq,z⟩
 | case5 e m r f n s h1 h2 ih =>
  intro p hp
  rcases List.mem_cons.mp hp with h | h
  ·exact .inl ⟨(e,m),mcs ..,by rw [h]⟩
  ·rcases ih p h with ⟨q,hq,z⟩ | ⟨q,hq,z⟩
   ·exact .inl ⟨q,mcm _ hq,z⟩
   ·exact .inr ⟨q,hq,z⟩
theorem mrg_ok {B C:Int} {l k:Lad}:l.Ok B->k.Ok C->1<=B->1<=C->(mrg l k).Ok (B+C):=by
 fun_induction mrg l k with
 | case1 k=>exact fun _ h b c=>h.mono (by omega)
 | case2 e m r=>exact fun h _ b c=>h.mono (by omega)
 | case3 m r e n s ih =>
  intro h g b c
  obtain ⟨h1,h2,h3,h4,h5⟩:=h
  obtain ⟨g1,g2,g3,g4,g5⟩:=g
  refine ⟨h1.mono (by omega),by omega,by omega,ih h4 g4 b c,fun p hp=>?_⟩
  rcases mrg_mem p hp with ⟨q,hq,z⟩ | ⟨q,hq,z⟩
  ·rw [<- z]; exact h5 q hq
  ·rw [<- z]; exact g5 q hq
 | case4 e m r f n s n1 n2 ih =>
  intro h g b c
  obtain ⟨g1,g2,g3,g4,g5⟩:=g
  refine ⟨g1.mono (by omega),by omega,by omega,ih h g4 b c,fun p hp=>?_⟩
  rcases mrg_mem p hp with ⟨q,hq,z⟩ | ⟨q,hq,z⟩
  ·rw [<- z]
   rcases List.mem_cons.mp hq with hq | hq
   ·rw [hq]; exact n2
   ·exact lt_trans _ _ _ (h.2.2.2.2 q hq) n2
  ·rw [<- z]; exact g5 q hq
 | case5 e m r f n s n1 n2 ih =>
  intro h g b c
  obtain ⟨h1,h2,h3,h4,h5⟩:=h
  have hlt:f.lt e=true:=lt_tri _ _ n1 (by simpa using n2)
  refine ⟨h1.mono (by omega),by omega,by omega,ih h4 g b c,fun p hp=>?_⟩
  rcases mrg_mem p hp with ⟨q,hq,z⟩ | ⟨q,hq,z⟩
  ·rw [<- z]; exact h5 q hq
  ·rw [<- z]
   rcases List.mem_cons.mp hq with hq | hq
   ·rw [hq]; exact hlt
   ·exact lt_trans _ _ _ (g.2.2.2.2 q hq) hlt
end Lad
theorem nameL86 {i:Nat} {x:V} {σ:L2.St} {H:Hp} {Q:L2.St->Hp->Prop} (h:Q (σ.set i (some x)) H):gName i x σ H Q:=h
namespace Lad
variable {a b c d l k w g r e:Lad} {m n:Int} {B:Int} {qs:List (Lad × Int)} {p:Lad × Int}
theorem R.pow (h:R e):R (.cons e 1 .nil):=by
 obtain ⟨B,hB,h⟩:=h
 exact ⟨B+1,by omega,pow_ok (h.mono (by omega)) (by omega)⟩
end Lad
namespace Lad
variable {a b c l k o h h':Lad} {m n:Int} {w:Bool}
theorem lad_nil (ho:o ≠ .nil):lad w o .nil=o:=by
 cases w with
 | true =>
  cases o with
  | nil=>exact absurd rfl ho
  | cons e m r=>rfl
 | false=>exact bhd_nil o
end Lad
namespace Gr
variable {b:Bk} {ρ:Str->Lad} {ns:List Str} {C F n:Int} {g X fr:Gr} {p:Tr × Int}
structure Goods (b:Bk) (ρ:Str->Lad) (ns:List Str):Prop where
 rt:∀ n ∈ ns,Lad.R (ρ n)/\ρ n ≠ .nil
 nm:∀ n ∈ ns,∀ kd,b.get n=some kd->∀ r ∈ kd.rs,RuOk r/\Named ns r.1/\Named ns r.2
 own:∀ n ∈ ns,∀ kd,b.get n=some kd->ρ n=Lad.maxL Lad.uno (kd.rs.map (clm b ρ))
theorem rkt_R (G:Goods b ρ ns) {t:Tr} (hk:t.1 ∈ ns) (ho:t.2.Ok C) (hn:Named ns t.2):Lad.R (rkt b ρ t) :=
 (G.rt _ hk).1.lad (rk_R ho (RN.named G.rt hn))
theorem G_R (G:Goods b ρ ns) (ho:g.Ok C) (hn:Named ns g):Lad.R (rk b ρ g):=rk_R ho (RN.named G.rt hn)
end Gr
structure LFitW (l:Lad):Prop where
 deep:l.deep<=29
 parts:l.parts<=900000
 num:∀ p ∈ l.ps,0<=p.2/\p.2 < 2 ^ 2000
theorem LFit.w {l:Lad} (h:LFit l):LFitW l:=⟨Nat.le_trans h.deep (by decide),Nat.le_trans h.parts (by decide),h.num⟩
def Gr.FitW (b:Bk) (ρ:Str->Lad) (ns:List Str):Gr->Prop
 | .nil=>True
 | .cons k g m r=>(k ∈ ns/\k ∈ b.names/\ρ k ≠ .nil/\LFitW (ρ k)/\LFitW (Gr.rk b ρ g)/\LFitW (Gr.rkt b ρ (k,g))/\0<=m/\m < 2 ^ 2000/\((Gr.rkT b ρ (.cons k g m r)).flatMap Lad.ps).length<=1900000)/\Gr.FitW b ρ ns g/\Gr.FitW b ρ ns r
namespace Gr
variable {b:Bk} {ρ:Str->Lad} {ns:List Str}
theorem Fit.w:∀ {g:Gr},Fit b ρ ns g->FitW b ρ ns g
 | .nil,_=>trivial
 | .cons k g m r,h=>by
  obtain ⟨⟨h1,h2,h3,h4,h5,h6,h7,h8,h9⟩,hg,hr⟩:=h
  exact ⟨⟨h1,h2,h3,h4.w,h5.w,h6.w,h7,h8,Nat.le_trans h9 (by decide)⟩,Fit.w hg,Fit.w hr⟩
theorem FitW.at:∀ {g:Gr},FitW b ρ ns g->∀ p ∈ g.ps,(p.1.1 ∈ ns/\p.1.1 ∈ b.names/\ρ p.1.1 ≠ .nil/\LFitW (ρ p.1.1)/\LFitW (rk b ρ p.1.2)/\LFitW (rkt b ρ p.1)/\0<=p.2/\p.2 < 2 ^ 2000)/\FitW b ρ ns p.1.2
 | .nil,_,p,hp=>nomatch hp
 | .cons k g m r,h,p,hp=>by
  obtain ⟨⟨h1,h2,h3,h4,h5,h6,h7,h8,_⟩,hg,hr⟩:=h
  rcases List.mem_cons.mp hp with rfl | hp
  ·exact ⟨⟨h1,h2,h3,h4,h5,h6,h7,h8⟩,hg⟩
  ·exact FitW.at hr p hp
theorem FitW.len:∀ {g:Gr},FitW b ρ ns g->((rkT b ρ g).flatMap Lad.ps).length<=1900000
 | .nil,_=>by simp [rkT]
 | .cons k g m r,h=>h.1.2.2.2.2.2.2.2.2
theorem FitW.mono {ms:List Str} (h:∀ n ∈ ns,n ∈ ms):∀ {g:Gr},FitW b ρ ns g->FitW b ρ ms g
 | .nil,_=>trivial
 | .cons k g m r,⟨h1,h2,h3⟩=>⟨⟨h _ h1.1,h1.2⟩,FitW.mono h h2,FitW.mono h h3⟩
def Bd (b:Bk) (ρ:Str->Lad) (P:Nat) (B:Int) (g:Gr):Prop:=∀ x ∈ g.within,(rkt b ρ x.1).parts<=P/\(rkt b ρ x.1).Ok B
end Gr
def spLadenW (K:PySem.W.Frag) (C:Addr):Sp:=fun vs H Q _=>∃ (v u t:V) (b:Bk) (n:Str) (o l:Lad),vs=[v,.str n,u,t]/\BkA K C H v b/\b.length<=1000/\n ∈ b.names/\(LA K H u o/\o ≠ .nil/\LFitW o)/\(LA K H t l/\LFitW l)/\∀ (x:V) (H':Hp),SB [] H H'->LA K H' x (lad (b.wide n) o l)->Q x H'
def spReckTW (K:PySem.W.Frag) (C:Addr) (m:Nat):Sp:=fun vs H Q _=>∃ (v t:V) (d:Addr) (b:Bk) (ρ:Str->Lad) (ns:List Str) (k:Str) (g:Gr),vs=[v,.ref d,t]/\BkA K C H v b/\b.length<=1000/\RkD K H d ρ ns/\Dp K H t (Gr.tEnc (k,g))/\g.deep < m/\(k ∈ ns/\k ∈ b.names/\ρ k ≠ .nil/\LFitW (ρ k)/\LFitW (Gr.rk b ρ g))/\Gr.FitW b ρ ns g/\g.parts<=900/\∀ (x:V) (H':Hp),SB [] H H'->LA K H' x (Gr.rkt b ρ (k,g))->Q x H'
def spReckW (K:PySem.W.Frag) (C:Addr) (m:Nat):Sp:=fun vs H Q _=>∃ (v u:V) (d:Addr) (b:Bk) (ρ:Str->Lad) (ns:List Str) (g:Gr),vs=[v,.ref d,u]/\BkA K C H v b/\b.length<=1000/\RkD K H d ρ ns/\GA K H u g/\g.deep < m/\Gr.FitW b ρ ns g/\g.parts<=900/\∀ (x:V) (H':Hp),SB [] H H'->LA K H' x (Gr.rk b ρ g)->Q x H'
theorem none_reckW {P:Program} {w:World} {K:PySem.W.Frag} {mg:Str->Option Value} {base:Heap} {f:Addr} {fd:FuncData} {C:Addr} {ps:List Str} {k:Nat}:FnOk P w K mg base CX0 k f fd ps (spReckW K C 0):=none_sp fun vs H Q E ⟨_,_,_,_,_,_,_,_,_,_,_,_,h,_⟩=>by omega
structure LFitL (l:Lad):Prop where
 deep:l.deep<=30
 parts:l.parts<=900000
 num:∀ p ∈ l.ps,0<=p.2/\p.2 < 2 ^ 400000
def Gr.FitL (b:Bk) (ρ:Str->Lad) (ns:List Str):Gr->Prop
 | .nil=>True
 | .cons k g m r=>(k ∈ ns/\k ∈ b.names/\ρ k ≠ .nil/\LFitL (ρ k)/\LFitL (Gr.rk b ρ g)/\LFitL (Gr.rkt b ρ (k,g))/\0<=m/\m < 2 ^ 400000/\((Gr.rkT b ρ (.cons k g m r)).map Lad.parts).sum<=900000)/\Gr.FitL b ρ ns g/\Gr.FitL b ρ ns r
namespace Gr
variable {b:Bk} {ρ σ:Str->Lad} {C:Int} {ns:List Str}
theorem rk_numsV {x:Nat} (hk:∀ n ∈ ns,(ρ n).Ok (2 ^ x)):∀ {g:Gr},Named ns g->g.Ok (2 ^ 2100)->(∀ l ∈ rkT b ρ g,l.Ok (2 ^ (x+2102*g.parts)))/\∀ y,((rkT b ρ g).map fun l=>Lad.S l y).sum < 2 ^ (x+2102*g.parts)
 | .nil,_,_=>And.intro (fun l hl=>nomatch hl) (fun y=>by
  show (0:Int) < _
  have:=two_pos (x+2102*Gr.nil.parts); omega)
 | .cons k g m r,h,ho=>by
  obtain ⟨_,hg,hm1,hm2,hr,_⟩:=ho
  have hkn:k ∈ ns:=h ((k,g),m) (mcs ..)
  obtain ⟨g1,g2⟩:=rk_numsV hk (g:=g) (fun x hx=>h x (mcm _ (mal _ hx))) hg
  obtain ⟨r1,r2⟩:=rk_numsV hk (g:=r) (fun x hx=>h x (mcm _ (mar _ hx))) hr
  have e1:(Gr.cons k g m r).parts=1+g.parts+r.parts:=rfl
  have p0:=two_pos (x+2102*g.parts)
  have px:=two_pos x
  have io:(Lad.bths (rkT b ρ g)).Ok (2 ^ (x+2102*g.parts)):=Lad.bths_ok g1 (by omega) (Int.le_refl _) g2
  have lo:=Lad.lad_ok (w:=b.wide k) (hk k hkn) io px p0
  have m1:=two_mono (show x<=x+2102*g.parts by omega)
  have lo2:(lad (b.wide k) (ρ k) (Lad.bths (rkT b ρ g))).Ok (2 ^ (x+2102*g.parts+1)):=lo.mono (by rw [two_succ]; omega)
  have to:=Lad.tms_ok lo2 (show 0<=m by omega)
  have q0:=two_pos (x+2102*g.parts+1)
  have hb:2 ^ (x+2102*g.parts+1)*m+2 ^ (x+2102*g.parts+1)<=2 ^ (x+2102*g.parts+2101):=by
   have:(2:Int) ^ (x+2102*g.parts+2101)=2 ^ (x+2102*g.parts+1)*2 ^ 2100:=by rw [<- Int.pow_add]
   rw [this]
   have h2:(2:Int) ^ (x+2102*g.parts+1)*(m+1)<=2 ^ (x+2102*g.parts+1)*2 ^ 2100:=Int.mul_le_mul_of_nonneg_left (by omega) (by omega)
   rw [Int.mul_add,Int.mul_one] at h2
   exact h2
  have to2:=to.mono hb
  have w1:=two_mono (show x+2102*g.parts+2101<=x+2102*(1+g.parts+r.parts)-1 by omega)
  have w2:=two_mono (show x+2102*r.parts<=x+2102*(1+g.parts+r.parts)-1 by omega)
  have w3:=two_succ (x+2102*(1+g.parts+r.parts)-1)
  rw [show x+2102*(1+g.parts+r.parts)-1+1=x+2102*(1+g.parts+r.parts) by omega] at w3
  have w0:=two_pos (x+2102*(1+g.parts+r.parts)-1)
  rw [e1]
  refine ⟨fun l hl=>?_,fun y=>?_⟩
  ·rcases List.mem_cons.mp hl with rfl | hl
   ·exact to2.mono (by omega)
   ·exact (r1 l hl).mono (by omega)
  ·show Lad.S (Lad.tms (lad (b.wide k) (ρ k) (Lad.bths (rkT b ρ g))) m) y+((rkT b ρ r).map fun l=>Lad.S l y).sum < _
   have s2:=r2 y
   have s3:Lad.S (Lad.tms (lad (b.wide k) (ρ k) (Lad.bths (rkT b ρ g))) m) y < 2 ^ (x+2102*g.parts+2101)\/Lad.S (Lad.tms (lad (b.wide k) (ρ k) (Lad.bths (rkT b ρ g))) m) y<=0:=by
    rcases Lad.S_cases to2 y with ⟨h1,_⟩ | ⟨mm,_,h2,_,h4⟩
    ·right; omega
    ·left; omega
   have w4:=two_pos (x+2102*g.parts+2101)
   rcases s3 with s3 | s3 <;> omega
theorem rk_fitXW {P D x:Nat} (hk:∀ n ∈ ns,n ∈ b.names/\ρ n ≠ .nil/\(ρ n).parts<=P/\(ρ n).deep<=D/\(ρ n).Ok (2 ^ x)) (hP:1<=P):∀ {g:Gr},Named ns g->g.Ok (2 ^ 119)->P*g.parts<=890000->D+g.deep<=28->x+121*g.parts<=2000->FitW b ρ ns g
 | .nil,_,_,_,_,_=>trivial
 | .cons k g m r,h,ho,hp,hd,hx=>by
  have hP':∀ n ∈ ns,(ρ n).parts<=P/\(ρ n).deep<=D:=fun n hn=>⟨(hk n hn).2.2.1,(hk n hn).2.2.2.1⟩
  have hX':∀ n ∈ ns,(ρ n).Ok (2 ^ x):=fun n hn=>(hk n hn).2.2.2.2
  have nm:2 ^ 119<=(2:Int) ^ 2000:=two_mono (by decide)
  obtain ⟨hkn,hnn⟩:k ∈ ns/\(Named ns g/\Named ns r):=⟨h ((k,g),m) (mcs ..),fun x hx=>h x (mcm _ (mal _ hx)),fun x hx=>h x (mcm _ (mar _ hx))⟩
  obtain ⟨ok0,hg,hm1,hm2,hr,hrise⟩:=ho
  have ho:(Gr.cons k g m r).Ok (2 ^ 119):=⟨ok0,hg,hm1,hm2,hr,hrise⟩
  have e1:(Gr.cons k g m r).parts=1+g.parts+r.parts:=rfl
  have e2:(Gr.cons k g m r).deep=max (1+g.deep) r.deep:=rfl
  rw [e1,Nat.mul_add,Nat.mul_add,Nat.mul_one] at hp
  rw [e1] at hx
  obtain ⟨s1,s2⟩:=rk_size hP' h
  obtain ⟨g1,g2⟩:=rk_size hP' hnn.1
  obtain ⟨n1,n2⟩:=rk_numsX hX' hnn.1 hg
  have p0:=two_pos (x+121*g.parts)
  have px:=two_pos x
  have io:(Lad.bths (rkT b ρ g)).Ok (2 ^ (x+121*g.parts)):=Lad.bths_ok n1 (by omega) (Int.le_refl _) n2
  have lo:=(Lad.lad_ok (w:=b.wide k) (hX' k hkn) io px p0)
  have m1:=two_mono (show x<=x+121*g.parts by omega)
  have m2:=two_mono (show x+121*g.parts+1<=2000 by omega)
  have m3:=two_succ (x+121*g.parts)
  obtain ⟨kb,kne,kp,kd,kx⟩:=hk k hkn
  have num:∀ {l:Lad},l.Ok (2 ^ 2000)->∀ p ∈ l.ps,0<=p.2/\p.2 < 2 ^ 2000:=fun hl p hp=>by
   have:=(Lad.ok_iff.mp hl).1 p hp
   exact ⟨by omega,this.2.2⟩
  have ip:(Lad.bths (rkT b ρ g)).parts<=P*g.parts:=Nat.le_trans (Lad.bths_parts _) g1
  have idp:(Lad.bths (rkT b ρ g)).deep<=D+g.deep:=Lad.bths_deep g2
  have lp:=Lad.lad_parts (b.wide k) (ρ k) (Lad.bths (rkT b ρ g))
  have ld:=Lad.lad_deep (w:=b.wide k) (o:=ρ k) (l:=Lad.bths (rkT b ρ g)) (n:=D+g.deep) (by omega) idp
  refine ⟨⟨hkn,kb,kne,⟨by omega,by omega,num (kx.mono (by omega))⟩,⟨by show (Lad.bths (rkT b ρ g)).deep<=29; omega,by show (Lad.bths (rkT b ρ g)).parts<=900000; omega,num (io.mono (by omega))⟩,⟨by show (lad (b.wide k) (ρ k) (Lad.bths (rkT b ρ g))).deep<=29; omega,by show (lad (b.wide k) (ρ k) (Lad.bths (rkT b ρ g))).parts<=900000; omega,num (lo.mono (by omega))⟩,by omega,by omega,?_⟩,rk_fitXW hk hP hnn.1 hg (by omega) (by omega) (by omega),rk_fitXW hk hP hnn.2 hr (by omega) (by omega) (by omega)⟩
  have key:∀ ls:List Lad,(ls.flatMap Lad.ps).length<=(ls.map Lad.parts).sum:=by
   intro ls
   induction ls with
   | nil=>exact Nat.le_refl _
   | cons l r ih =>
    rw [List.flatMap_cons,List.length_append,List.map_cons,List.sum_cons,Lad.ps_length]
    have:=l.len_parts
    omega
  have:=key (rkT b ρ (.cons k g m r))
  rw [e1,Nat.mul_add,Nat.mul_add,Nat.mul_one] at s1
  exact Nat.le_trans (Nat.le_trans this s1) (by omega)
theorem rk_fitL {P D x:Nat} (hk:∀ n ∈ ns,n ∈ b.names/\ρ n ≠ .nil/\(ρ n).parts<=P/\(ρ n).deep<=D/\(ρ n).Ok (2 ^ x)) (hP:1<=P):∀ {g:Gr},Named ns g->g.Ok (2 ^ 2100)->P*g.parts<=890000->D+g.deep<=29->x+2102*g.parts<=400000->FitL b ρ ns g
 | .nil,_,_,_,_,_=>trivial
 | .cons k g m r,h,ho,hp,hd,hx=>by
  have hP':∀ n ∈ ns,(ρ n).parts<=P/\(ρ n).deep<=D:=fun n hn=>⟨(hk n hn).2.2.1,(hk n hn).2.2.2.1⟩
  have hX':∀ n ∈ ns,(ρ n).Ok (2 ^ x):=fun n hn=>(hk n hn).2.2.2.2
  have nm:2 ^ 2100<=(2:Int) ^ 400000:=two_mono (by decide)
  obtain ⟨hkn,hnn⟩:k ∈ ns/\(Named ns g/\Named ns r):=⟨h ((k,g),m) (mcs ..),fun x hx=>h x (mcm _ (mal _ hx)),fun x hx=>h x (mcm _ (mar _ hx))⟩
  obtain ⟨ok0,hg,hm1,hm2,hr,hrise⟩:=ho
  have ho:(Gr.cons k g m r).Ok (2 ^ 2100):=⟨ok0,hg,hm1,hm2,hr,hrise⟩
  have e1:(Gr.cons k g m r).parts=1+g.parts+r.parts:=rfl
  have e2:(Gr.cons k g m r).deep=max (1+g.deep) r.deep:=rfl
  rw [e1,Nat.mul_add,Nat.mul_add,Nat.mul_one] at hp
  rw [e1] at hx
  obtain ⟨s1,s2⟩:=rk_size hP' h
  obtain ⟨g1,g2⟩:=rk_size hP' hnn.1
  obtain ⟨n1,n2⟩:=rk_numsV hX' hnn.1 hg
  have p0:=two_pos (x+2102*g.parts)
  have px:=two_pos x
  have io:(Lad.bths (rkT b ρ g)).Ok (2 ^ (x+2102*g.parts)):=Lad.bths_ok n1 (by omega) (Int.le_refl _) n2
  have lo:=(Lad.lad_ok (w:=b.wide k) (hX' k hkn) io px p0)
  have m1:=two_mono (show x<=x+2102*g.parts by omega)
  have m2:=two_mono (show x+2102*g.parts+1<=400000 by omega)
  have m3:=two_succ (x+2102*g.parts)
  obtain ⟨kb,kne,kp,kd,kx⟩:=hk k hkn
  have num:∀ {l:Lad},l.Ok (2 ^ 400000)->∀ p ∈ l.ps,0<=p.2/\p.2 < 2 ^ 400000:=fun hl p hp=>by
   have:=(Lad.ok_iff.mp hl).1 p hp
   exact ⟨by omega,this.2.2⟩
  have ip:(Lad.bths (rkT b ρ g)).parts<=P*g.parts:=Nat.le_trans (Lad.bths_parts _) g1
  have idp:(Lad.bths (rkT b ρ g)).deep<=D+g.deep:=Lad.bths_deep g2
  have lp:=Lad.lad_parts (b.wide k) (ρ k) (Lad.bths (rkT b ρ g))
  have ld:=Lad.lad_deep (w:=b.wide k) (o:=ρ k) (l:=Lad.bths (rkT b ρ g)) (n:=D+g.deep) (by omega) idp
  refine ⟨⟨hkn,kb,kne,⟨by omega,by omega,num (kx.mono (by omega))⟩,⟨by show (Lad.bths (rkT b ρ g)).deep<=30; omega,by show (Lad.bths (rkT b ρ g)).parts<=900000; omega,num (io.mono (by omega))⟩,⟨by show (lad (b.wide k) (ρ k) (Lad.bths (rkT b ρ g))).deep<=30; omega,by show (lad (b.wide k) (ρ k) (Lad.bths (rkT b ρ g))).parts<=900000; omega,num (lo.mono (by omega))⟩,by omega,by omega,?_⟩,rk_fitL hk hP hnn.1 hg (by omega) (by omega) (by omega),rk_fitL hk hP hnn.2 hr (by omega) (by omega) (by omega)⟩
  rw [e1,Nat.mul_add,Nat.mul_add,Nat.mul_one] at s1
  exact Nat.le_trans s1 (by omega)
end Gr
theorem Lad.shaped_rowsL {bs:List (Lad × Int)} (h:∀ b ∈ bs,b.1.deep<=30):SeqAt.shaped (.list (bs.map Lad.pEnc))=true:=by
 have h1:PyData.canLayAll0 (bs.map Lad.pEnc)=true:=by
  induction bs with
  | nil=>simp [PyData.canLayAll0]
  | cons b r ih =>
   have:=ih fun c hc=>h c (mcm _ hc)
   rw [List.map_cons,PyData.canLayAll0,this]
   simp [Lad.pEnc,PyData.canLay0,PyData.canLayAll0,Lad.enc,Lad.lays]
 have h2:PyData.depthAll (bs.map Lad.pEnc)<=62:=by
  induction bs with
  | nil=>simp [PyData.depthAll]
  | cons b r ih =>
   have e1:=ih (fun c hc=>h c (mcm _ hc)) (by rw [List.map_cons,PyData.canLayAll0,Bool.and_eq_true] at h1; exact h1.2)
   have e2:=h b (mcs ..)
   have e3:=Lad.pEnc_depth b
   rw [List.map_cons,PyData.depthAll]
   omega
 have h3:(PyData.list (bs.map Lad.pEnc)).depth=PyData.depthAll (bs.map Lad.pEnc)+1:=by simp [PyData.depth]
 unfold SeqAt.shaped
 rw [PyData.canLay0,h1,Bool.true_and]
 exact decide_eq_true (by omega)
namespace Gr
variable {b:Bk} {ρ:Str->Lad} {ns:List Str}
theorem FitL.at:∀ {g:Gr},FitL b ρ ns g->∀ p ∈ g.ps,(p.1.1 ∈ ns/\p.1.1 ∈ b.names/\ρ p.1.1 ≠ .nil/\LFitL (ρ p.1.1)/\LFitL (rk b ρ p.1.2)/\LFitL (rkt b ρ p.1)/\0<=p.2/\p.2 < 2 ^ 400000)/\FitL b ρ ns p.1.2
 | .nil,_,p,hp=>nomatch hp
 | .cons k g m r,h,p,hp=>by
  obtain ⟨⟨h1,h2,h3,h4,h5,h6,h7,h8,_⟩,hg,hr⟩:=h
  rcases List.mem_cons.mp hp with rfl | hp
  ·exact ⟨⟨h1,h2,h3,h4,h5,h6,h7,h8⟩,hg⟩
  ·exact FitL.at hr p hp
theorem FitL.sum:∀ {g:Gr},FitL b ρ ns g->((rkT b ρ g).map Lad.parts).sum<=900000
 | .nil,_=>by simp [rkT]
 | .cons k g m r,h=>h.1.2.2.2.2.2.2.2.2
theorem FitL.named:∀ {g:Gr},FitL b ρ ns g->Named ns g
 | .nil,_=>fun x hx=>nomatch hx
 | .cons k g m r,h=>by
  intro x hx
  rcases List.mem_cons.mp hx with z | hx
  ·rw [z]; exact h.1.1
  ·rcases List.mem_append.mp hx with hx | hx
   ·exact FitL.named h.2.1 x hx
   ·exact FitL.named h.2.2 x hx
end Gr
namespace Gr
theorem mem_within {g:Gr} {p:Tr × Int} (h:p ∈ g.ps):p ∈ g.within:=by
 rw [within_ps]; exact List.mem_flatMap.mpr ⟨p,h,mcs ..⟩
theorem within_sub {g:Gr} {p x:Tr × Int} (h:p ∈ g.ps) (hx:x ∈ p.1.2.within):x ∈ g.within:=by
 rw [within_ps]; exact List.mem_flatMap.mpr ⟨p,h,mcm _ hx⟩
end Gr
inductive PairedL {α β:Type} (F:α->β->Prop):List α->List β->Prop
 | nil:PairedL F [] []
 | cons {a:α} {b:β} {as:List α} {bs:List β}:F a b->PairedL F as bs->PairedL F (a::as) (b::bs)
namespace PairedL
variable {α β:Type} {F G:α->β->Prop}
theorem length:∀ {as:List α} {bs:List β},PairedL F as bs->as.length=bs.length
 | _,_,.nil=>rfl
 | _,_,.cons _ h=>by rw [List.length_cons,List.length_cons,h.length]
theorem mono:∀ {as:List α} {bs:List β},PairedL F as bs->(∀ a b,F a b->G a b)->PairedL G as bs
 | _,_,.nil,_=>.nil
 | _,_,.cons h r,g=>.cons (g _ _ h) (r.mono g)
theorem append:∀ {as as':List α} {bs bs':List β},PairedL F as bs->PairedL F as' bs'->PairedL F (as++as') (bs++bs')
 | _,_,_,_,.nil,h=>h
 | _,_,_,_,.cons h r,g=>.cons h (r.append g)
theorem get:∀ {as:List α} {bs:List β} {i:Nat} {a:α},PairedL F as bs->as[i]?=some a->∃ b,bs[i]?=some b/\F a b
 | _,_,_,_,.nil,h=>nomatch h
 | _,_,0,_,.cons h r,e=>by
  cases e
  exact ⟨_,rfl,h⟩
 | _,_,i+1,_,.cons h r,e=>r.get (i:=i) e
end PairedL
def KvA (K:PySem.W.Frag) (H:Hp) (v:V) (k:Kd):Prop:=∃ (t l:Addr) (zs:List V),v=.ref t/\SqT K H t [.bl k.w,.ref l]/\H l=some (.lst zs)/\Bears K H Ru.enc zs k.rs
def NoL (H:Hp) (ps:List Addr):Prop:=∀ a ∈ ps,∀ zs,H a ≠ some (.lst zs)
theorem NoL.nil {H:Hp}:NoL H []:=fun _ h=>nomatch h
theorem NoL.one {H:Hp} {d:Addr} {kvs:List (Key × V)} (h:H d=some (.dK kvs)):NoL H [d]:=fun a ha zs z=>by
 rw [List.mem_singleton.mp ha,h] at z; cases z
theorem KvA.sb {K:PySem.W.Frag} {H H':Hp} {ps:List Addr} {v:V} {k:Kd} (h:KvA K H v k) (e:SB ps H H') (hn:NoL H ps):KvA K H' v k:=by
 obtain ⟨t,l,zs,e1,e2,e3,e4⟩:=h
 exact ⟨t,l,zs,e1,e.sqT e2,e.keep _ _ e3 (fun z=>hn l z zs e3),e4.sb e Ru.noList_enc⟩
abbrev nKV (ns:List Str) (us:List V):List (Key × V):=List.zipWith (fun (n:Str) (u:V)=>((Sum.inr n:Key),u)) ns us
def DkB (K:PySem.W.Frag) (H:Hp) (d:Addr) (b:Bk):Prop:=∃ us:List V,H d=some (.dK (nKV b.names us))/\PairedL (KvA K H) us b
theorem DkB.sb {K:PySem.W.Frag} {H H':Hp} {ps:List Addr} {d:Addr} {b:Bk} (h:DkB K H d b) (e:SB ps H H') (hd:d ∉ ps) (hn:NoL H ps):DkB K H' d b:=by
 obtain ⟨us,h1,h2⟩:=h
 exact ⟨us,e.keep _ _ h1 hd,h2.mono fun _ _ q=>q.sb e hn⟩
def DkL (K:PySem.W.Frag) (H:Hp) (d:Addr) (b:Bk):Prop:=∃ kvs:List (Key × V),H d=some (.dK kvs)/\∀ n kd,b.get n=some kd->∃ v,valV kvs (Sum.inr n)=some v/\KvA K H v kd
theorem DkL.sb {K:PySem.W.Frag} {H H':Hp} {ps:List Addr} {d:Addr} {b:Bk} (h:DkL K H d b) (e:SB ps H H') (hd:d ∉ ps) (hn:NoL H ps):DkL K H' d b:=by
 obtain ⟨kvs,h1,h2⟩:=h
 exact ⟨kvs,e.keep _ _ h1 hd,fun n kd hk=>by obtain ⟨v,h3,h4⟩:=h2 n kd hk; exact ⟨v,h3,h4.sb e hn⟩⟩
theorem DkL.sb0 {K:PySem.W.Frag} {H H':Hp} {d:Addr} {b:Bk} (h:DkL K H d b) (e:SB [] H H'):DkL K H' d b:=h.sb e nmn NoL.nil
theorem DkL.val {K:PySem.W.Frag} {H:Hp} {d:Addr} {b:Bk} {n:Str} {kd:Kd} (h:DkL K H d b) (e:b.get n=some kd):∃ v,DGet H d (.str n) (some v)/\KvA K H v kd:=by
 obtain ⟨kvs,h1,h2⟩:=h
 obtain ⟨v,h3,h4⟩:=h2 n kd e
 exact ⟨v,getK h1 h3,h4⟩
theorem nKV_val {F:V->Kd->Prop} {n:Str} {kd:Kd}:∀ {b:Bk} {us:List V},PairedL F us b->b.get n=some kd->∃ v,valV (nKV b.names us) (Sum.inr n)=some v/\F v kd
 | [],_,_,h=>nomatch h
 | k::r,us,hp,h=>by
  cases hp with
  | @cons u _ us' _ h1 h2 =>
  by_cases e:k.n=n
  ·have:kd=k:=by
    unfold Bk.get at h
    rw [List.find?_cons_of_pos (by simpa using e)] at h
    exact (Option.some.inj h).symm
   rw [this]
   refine ⟨u,?_,h1⟩
   show valV (((Sum.inr k.n:Key),u)::_) (Sum.inr n)=some u
   rw [e]
   simp [valV]
  ·have h':Bk.get r n=some kd:=by
    unfold Bk.get at h
    rw [List.find?_cons_of_neg (by simpa using e)] at h
    exact h
   obtain ⟨v,h3,h4⟩:=nKV_val h2 h'
   refine ⟨v,?_,h4⟩
   show valV (((Sum.inr k.n:Key),u)::nKV (Bk.names r) us') (Sum.inr n)=some v
   unfold valV
   rw [List.find?_cons_of_neg (by simp only [decide_eq_true_eq]; exact fun z=>e (Sum.inr.inj z))]
   exact h3
def SameB (b c:Bk):Prop:=∀ n,b.get n=c.get n
theorem DkB.l {K:PySem.W.Frag} {H:Hp} {d:Addr} {b c:Bk} (h:DkB K H d b) (e:SameB b c):DkL K H d c:=by
 obtain ⟨us,h1,h2⟩:=h
 exact ⟨_,h1,fun n kd hk=>nKV_val h2 ((e n).trans hk)⟩
theorem nKV_put {ns:List Str} {us:List V} {n:Str} {x:V} (hl:us.length=ns.length) (hn:n ∉ ns):putK (nKV ns us) (Sum.inr n) x=nKV (ns++[n]) (us++[x]):=by
 unfold nKV
 rw [putK_new fun p hp z=>?_,List.zipWith_append (by omega)]
 ·rfl
 ·induction ns generalizing us with
  | nil=>cases hp
  | cons m r ih =>
   cases us with
   | nil=>cases hp
   | cons u us =>
    rw [List.zipWith_cons_cons] at hp
    rcases List.mem_cons.mp hp with rfl | hp
    ·exact hn (List.mem_cons.mpr (.inl (Sum.inr.inj z).symm))
    ·exact ih (by simp at hl; omega) (fun h=>hn (mcm _ h)) hp
def PotC (H:Hp) (p c:Addr):Prop:=∃ (ns:List Int) (a l s:Int),H p=some (.dK (potK c a l s))/\H c=some (.lst (ns.map V.int))/\ns.length<=63/\0<=a/\a<=ns.length/\(0<=l/\l < 10 ^ 320)/\(0<=s/\s < 2 ^ 31)
theorem PotC.of {H:Hp} {p:Addr} (h:PotA H p):∃ c,PotC H p c:=h
theorem PotC.keep {H H':Hp} {p c:Addr} {ps:List Addr} (h:PotC H p c) (e:SB ps H H') (h1:p ∉ ps) (h2:c ∉ ps):PotC H' p c:=by
 obtain ⟨ns,a,l,s,a1,a2,a3⟩:=h
 exact ⟨ns,a,l,s,e.keep _ _ a1 h1,e.keep _ _ a2 h2,a3⟩
theorem PotC.sb {H H':Hp} {p c:Addr} (h:PotC H p c) (e:SB [] H H'):PotC H' p c:=h.keep e nmn nmn
theorem PotC.ne {H:Hp} {p c q:Addr} (h:PotC H p c) (hq:H q=none):p ≠ q:=by
 obtain ⟨ns,a,l,s,a1,a2,a3⟩:=h
 exact fun z=>by rw [z,hq] at a1; cases a1
theorem PotC.nc {H:Hp} {p c q:Addr} (h:PotC H p c) (hq:H q=none):c ≠ q:=by
 obtain ⟨ns,a,l,s,a1,a2,a3⟩:=h
 exact fun z=>by rw [z,hq] at a2; cases a2
theorem PotC.some {H:Hp} {p c:Addr} (h:PotC H p c):∀ q ∈ [p],H q ≠ none:=by
 intro q hq
 rw [List.mem_singleton.mp hq]
 obtain ⟨ns,a,l,s,a1,a2,a3⟩:=h
 exact fun z=>by rw [z] at a1; cases a1
theorem PotC.isD {H:Hp} {p c:Addr} (h:PotC H p c):∃ kvs,H p=Option.some (.dK kvs):=by
 obtain ⟨ns,a,l,s,a1,a2,a3⟩:=h
 exact ⟨_,a1⟩
def spTakeR:Sp:=fun vs H Q _=>∃ (p cl:Addr) (m:Int),vs=[.ref p,.int m]/\PotC H p cl/\1<=m/\m < 2 ^ 2000/\∀ r H',0<=r->r < m->SB [p] H H'->PotC H' p cl->Q (.int r) H'
def spNamesR (K:PySem.W.Frag):Sp:=fun vs H Q _=>∃ (p cl:Addr) (m:Nat),vs=[.ref p,.int (m:Int)]/\PotC H p cl/\1<=m/\m<=8/\∀ (L:Addr) (ks:List Str) (H':Hp),SB [p] H H'->PotC H' p cl->H L=none->H' L=some (.lst (ks.map V.str))->ks.length=m->ks.Nodup->(∀ k ∈ ks,NameOk k)->Q (.ref L) H'
def spGroveR (K:PySem.W.Frag) (n:Nat):Sp:=fun vs H Q _=>∃ (p nl cl:Addr) (ks:List Str) (m:Nat) (c:Int),vs=[.ref p,.ref nl,.int (m:Int),.int c]/\PotC H p cl/\(H nl=some (.lst (ks.map V.str))/\nl ≠ p/\ks.length<=8/\∀ k ∈ ks,NameOk k)/\m < n/\m<=12/\3<=c/\c<=10 ^ 60 /\
 ∀ (v:V) (g:Gr) (H':Hp),SB [p] H H'->PotC H' p cl->GA K H' v g->g.Ok (m*c+1)->g.parts<=m->g.deep<=m->Gr.Named ks g->(1<=m->ks ≠ []->g ≠ .nil)->Q v H'
def Ahead (b:Bk):Prop:=∀ (i:Nat) (k:Kd),b[i]?=some k->∀ r ∈ k.rs,∀ x ∈ Ru.within r,x.1.1 ∈ Bk.names (b.take i)
structure Drawn (b:Bk) (m:Nat):Prop where
 ok:b.Ok
 len:b.length<=m
 ahead:Ahead b
 few:∀ k ∈ b,∀ r ∈ k.rs,r.1.parts+r.2.parts<=3
def spKindsR (K:PySem.W.Frag):Sp:=fun vs H Q _=>∃ (d:Addr) (b:Bk) (t:Bool),vs=[.ref d,.bl t]/\DkB K H d b/\b.length<=100/\∀ (L:Addr) (xs:List V) (H':Hp),SB [] H H'->H L=none->H' L=some (.lst xs)->KdAll K H' [L] xs (if t=true then b.reverse else b)->Q (.ref L) H'
def spBehindL (K:PySem.W.Frag):Sp:=fun vs H Q _=>∃ (v u:V) (l k:Lad),vs=[v,u]/\LA K H v l/\LA K H u k/\l.deep<=30/\k.deep<=30/\l.parts<=4000000/\k.parts<=4000000/\∀ (x:V) (H':Hp),SB [] H H'->LA K H' x (l.bhd k)->Q x H'
def spBothL (K:PySem.W.Frag):Sp:=fun vs H Q _=>∃ (v u:V) (l k:Lad),vs=[v,u]/\LA K H v l/\LA K H u k/\l.deep<=30/\k.deep<=30/\l.parts<=4000000/\k.parts<=4000000/\∀ (x:V) (H':Hp),SB [] H H'->LA K H' x (Lad.mrg l k)->Q x H'
def spAboveL (K:PySem.W.Frag):Sp:=fun vs H Q _=>∃ (v u:V) (l k:Lad),vs=[v,u]/\LA K H v l/\LA K H u k/\Lad.R l/\Lad.R k/\l.deep<=30/\k.deep<=30/\l.parts<=1000000/\k.parts<=1000000/\∀ (x:V) (H':Hp),SB [] H H'->LA K H' x (l.abv k)->Q x H'
theorem Lad.mrg_S:∀ (l k:Lad) (x:Lad),Lad.S (Lad.mrg l k) x=Lad.S l x+Lad.S k x
 | .nil,k,x=>by rw [Lad.mrg_nil_l]; show Lad.S k x=Lad.sumAt [] x+Lad.S k x; rw [Lad.sumAt_nil]; omega
 | .cons e m r,.nil,x=>by rw [Lad.mrg_nil_r]; show _=_+Lad.sumAt [] x; rw [Lad.sumAt_nil]; omega
 | .cons e m r,.cons f n s,x=>by
  have hc:∀ (e:Lad) (m:Int) (r:Lad),Lad.S (.cons e m r) x=(if e=x then m else 0)+Lad.S r x:=fun e m r=>Lad.sumAt_cons e m r.ps x
  rw [Lad.mrg_cons]
  split
  ·rename_i h
   subst h
   rw [hc,hc,hc,Lad.mrg_S r s x]
   split <;> omega
  ·split
   ·rw [hc f n (Lad.mrg (.cons e m r) s),Lad.mrg_S (.cons e m r) s x,hc f n s]
    omega
   ·rw [hc e m (Lad.mrg r (.cons f n s)),Lad.mrg_S r (.cons f n s) x,hc e m r]
    omega
termination_by l k=>l.len+k.len
decreasing_by all_goals (simp only [Lad.len]; omega)
theorem Lad.mrg_bth {l k:Lad} (hl:Lad.R l) (hk:Lad.R k):Lad.mrg l k=l.bth k:=by
 have rb:=hl.bth hk
 obtain ⟨B,hB,h1⟩:=hl
 obtain ⟨C,hC,h2⟩:=hk
 exact Lad.R.ext ⟨B+C,by omega,Lad.mrg_ok h1 h2 hB hC⟩ rb fun x=>by rw [Lad.mrg_S,Lad.S_bth]
structure LawR (b:Bk) (ρ:Str->Lad) (ns:List Str) (lv:Str->Nat):Prop extends Gr.Goods b ρ ns where
 len:ns.length<=8
 get:∀ n ∈ ns,∃ kd,b.get n=some kd
 few:∀ n ∈ ns,∀ kd,b.get n=some kd->kd.rs.length<=4
 rl:∀ n ∈ ns,∀ kd,b.get n=some kd->∀ r ∈ kd.rs,(Gr.FitL b ρ ns r.1/\LFitL (Gr.rk b ρ r.1))/\Gr.FitL b ρ ns r.2/\LFitL (Gr.rk b ρ r.2)
 fit:∀ n ∈ ns,LFitL (ρ n)
 down:∀ n ∈ ns,∀ kd,b.get n=some kd->∀ r ∈ kd.rs,∀ x ∈ Ru.within r,lv x.1.1 < lv n
 low:∀ n ∈ ns,lv n < 8
structure Memo (K:PySem.W.Frag) (H:Hp) (e:Addr) (ρ:Str->Lad) (ns ms:List Str):Prop where
 at_:RkD K H e ρ ms
 nd:ms.Nodup
 sub:∀ m ∈ ms,m ∈ ns
theorem Memo.sb0 {K:PySem.W.Frag} {H H':Hp} {e:Addr} {ρ:Str->Lad} {ns ms:List Str} (h:Memo K H e ρ ns ms) (s:SB [] H H'):Memo K H' e ρ ns ms:=⟨h.at_.sb0 s,h.nd,h.sub⟩
theorem Memo.len {K:PySem.W.Frag} {H:Hp} {e:Addr} {ρ:Str->Lad} {ns ms:List Str} (h:Memo K H e ρ ns ms):ms.length<=ns.length:=h.nd.length_le_of_subset h.sub
theorem Memo.isD {K:PySem.W.Frag} {H:Hp} {e:Addr} {ρ:Str->Lad} {ns ms:List Str} (h:Memo K H e ρ ns ms):∃ kvs,H e=some (.dK kvs):=by
 obtain ⟨⟨us,h1,_⟩,_,_⟩:=h
 exact ⟨_,h1⟩
theorem Memo.put {K:PySem.W.Frag} {H:Hp} {e:Addr} {ρ:Str->Lad} {ns ms:List Str} {n:Str} {x:V} (h:Memo K H e ρ ns ms) (h8:ns.length<=8) (hn:n ∈ ns) (hm:n ∉ ms) (hx:LA K H x (ρ n)):∃ H',DPut H e (.str n) x H'/\SB [e] H H'/\Memo K H' e ρ ns (ms++[n]):=by
 have hl:=h.len
 obtain ⟨H',h1,h2,h3⟩:=h.at_.put hm (by omega) hx
 refine ⟨H',h1,h2,h3,List.nodup_append.mpr ⟨h.nd,by simp,fun a ha b hb=>?_⟩,fun m hm'=>?_⟩
 ·rw [List.mem_singleton.mp hb]
  exact fun z=>hm (z ▸ ha)
 ·rcases List.mem_append.mp hm' with z | z
  ·exact h.sub m z
  ·rw [List.mem_singleton.mp z]; exact hn
def spRkR (K:PySem.W.Frag) (n:Nat):Sp:=fun vs H Q _=>∃ (d e:Addr) (u:V) (b:Bk) (ρ:Str->Lad) (ns ms:List Str) (lv:Str->Nat) (g:Gr) (C:Int) (c:Nat),vs=[.ref d,.ref e,u]/\DkL K H d b/\d ≠ e/\LawR b ρ ns lv/\Memo K H e ρ ns ms/\(GA K H u g/\g.Ok C/\Gr.FitL b ρ ns g/\g.deep<=16/\g.parts<=900)/\(∀ x ∈ g.within,lv x.1.1 < c)/\20*c+g.deep < n /\
 ∀ (x:V) (H':Hp) (ms':List Str),SB [e] H H'->Memo K H' e ρ ns ms'->(∀ m ∈ ms',m ∈ ms\/lv m < c)->LA K H' x (Gr.rk b ρ g)->Q x H'
def spOwR (K:PySem.W.Frag) (n:Nat):Sp:=fun vs H Q _=>∃ (d e:Addr) (k:Str) (b:Bk) (ρ:Str->Lad) (ns ms:List Str) (lv:Str->Nat),vs=[.ref d,.ref e,.str k]/\DkL K H d b/\d ≠ e/\LawR b ρ ns lv/\Memo K H e ρ ns ms/\k ∈ ns/\20*lv k+18 < n /\
 ∀ (x:V) (H':Hp) (ms':List Str),SB [e] H H'->Memo K H' e ρ ns ms'->(∀ m ∈ ms',m ∈ ms\/lv m<=lv k)->LA K H' x (ρ k)->Q x H'
theorem none_rkR {P:Program} {w:World} {K:PySem.W.Frag} {mg:Str->Option Value} {base:Heap} {f:Addr} {fd:FuncData} {ps:List Str} {k:Nat}:FnOk P w K mg base CX0 k f fd ps (spRkR K 0):=none_sp fun vs H Q E ⟨_,_,_,_,_,_,_,_,_,_,_,_,_,_,_,_,_,_,h,_⟩=>by omega
theorem none_owR {P:Program} {w:World} {K:PySem.W.Frag} {mg:Str->Option Value} {base:Heap} {f:Addr} {fd:FuncData} {ps:List Str} {k:Nat}:FnOk P w K mg base CX0 k f fd ps (spOwR K 0):=none_sp fun vs H Q E ⟨_,_,_,_,_,_,_,_,_,_,_,_,_,_,h,_⟩=>by omega
theorem SameB.rev {b:Bk} (nd:b.names.Nodup):SameB b b.reverse:=fun n=>by
 have nr:(Bk.names b.reverse).Nodup:=by
  show (b.reverse.map _).Nodup
  rw [List.map_reverse]; exact (List.reverse_perm _).nodup_iff.mpr nd
 cases e:b.get n with
 | some k =>
  obtain ⟨km,kn⟩:=Bk.get_some e
  have:=Bk.get_self nr (List.mem_reverse.mpr km)
  rw [kn] at this
  exact this.symm
 | none =>
  cases e2:Bk.get b.reverse n with
  | none=>rfl
  | some k =>
   obtain ⟨km,kn⟩:=Bk.get_some e2
   exact absurd (List.mem_map.mpr ⟨k,List.mem_reverse.mp km,kn⟩) (Bk.get_none e)
structure Made (c:Bk) (lv:Str->Nat):Prop where
 ok:c.Ok
 ends:∀ n ∈ c.names,EndK c n
 own:OwnR c (ownOf c)
 R:∀ n ∈ c.names,EndK c n->Lad.R (ownOf c n)/\ownOf c n ≠ .nil
 bnd:∀ n ∈ c.names,ownOf c n ≠ .nil/\(ownOf c n).parts<=242/\(ownOf c n).deep<=14/\(ownOf c n).Ok (2 ^ 394)
 law:LawR c (ownOf c) c.names lv
namespace Gr
variable {b:Bk} {ρ:Str->Lad} {ns:List Str}
theorem rk_okV {x:Nat} (hk:∀ n ∈ ns,(ρ n).Ok (2 ^ x)) {g:Gr} (hn:Named ns g) (ho:g.Ok (2 ^ 2100)):(rk b ρ g).Ok (2 ^ (x+2102*g.parts)):=by
 obtain ⟨n1,n2⟩:=rk_numsV (b:=b) hk hn ho
 exact Lad.bths_ok n1 (by have:=two_pos (x+2102*g.parts); omega) (Int.le_refl _) n2
theorem rk_okX {x:Nat} (hk:∀ n ∈ ns,(ρ n).Ok (2 ^ x)) {g:Gr} (hn:Named ns g) (ho:g.Ok (2 ^ 119)):(rk b ρ g).Ok (2 ^ (x+121*g.parts)):=by
 obtain ⟨n1,n2⟩:=rk_numsX (b:=b) hk hn ho
 exact Lad.bths_ok n1 (by have:=two_pos (x+121*g.parts); omega) (Int.le_refl _) n2
theorem rk_len {P D:Nat} (hk:∀ n ∈ ns,(ρ n).parts<=P/\(ρ n).deep<=D) {g:Gr} (hn:Named ns g):(rk b ρ g).parts<=P*g.parts/\(rk b ρ g).deep<=D+g.deep:=by
 obtain ⟨s1,s2⟩:=rk_size (b:=b) hk hn
 exact ⟨Nat.le_trans (Lad.bths_parts _) s1,Lad.bths_deep s2⟩
theorem named_held {g:Gr} {x:Tr × Int} (hn:Named ns g) (hx:x ∈ g.within):x.1.1 ∈ ns/\Named ns x.1.2/\x.1.2.parts<=g.parts/\x.1.2.deep<=g.deep:=by
 induction g with
 | nil=>cases hx
 | cons k g m r ih1 ih2 =>
  have h1:Named ns g:=fun y hy=>hn y (mcm _ (mal _ hy))
  have h2:Named ns r:=fun y hy=>hn y (mcm _ (mar _ hy))
  have e1:(Gr.cons k g m r).parts=1+g.parts+r.parts:=rfl
  have e2:(Gr.cons k g m r).deep=max (1+g.deep) r.deep:=rfl
  rcases List.mem_cons.mp hx with rfl | hx
  ·exact ⟨hn _ (mcs ..),h1,by show g.parts<=_; omega,by show g.deep<=_; omega⟩
  ·rcases List.mem_append.mp hx with hx | hx
   ·obtain ⟨a,b,c,d⟩:=ih1 h1 hx; exact ⟨a,b,by omega,by omega⟩
   ·obtain ⟨a,b,c,d⟩:=ih2 h2 hx; exact ⟨a,b,by omega,by omega⟩
end Gr
theorem LFitL.of {l:Lad} {x:Nat} (hd:l.deep<=30) (hp:l.parts<=900000) (ho:l.Ok (2 ^ x)) (hx:x<=400000):LFitL l:=⟨hd,hp,fun p h=>by
 have:=(Lad.ok_iff.mp ho).1 p h
 exact ⟨by omega,Int.lt_of_lt_of_le this.2.2 (two_mono hx)⟩⟩
theorem LFitW.of {l:Lad} {x:Nat} (hd:l.deep<=29) (hp:l.parts<=900000) (ho:l.Ok (2 ^ x)) (hx:x<=2000):LFitW l:=⟨hd,hp,fun p h=>by
 have:=(Lad.ok_iff.mp ho).1 p h
 exact ⟨by omega,Int.lt_of_lt_of_le this.2.2 (two_mono hx)⟩⟩
theorem Drawn.made {b c:Bk} {m:Nat} (h:Drawn b m) (hm:m<=5) (hc:c=b\/c=b.reverse):SameB b c/\(∀ n,n ∈ c.names ↔ n ∈ b.names)/\∃ lv,Made c lv:=by
 have same:SameB b c:=by
  rcases hc with rfl | rfl
  ·exact fun _=>rfl
  ·exact SameB.rev h.ok.nd
 have mem:∀ k,k ∈ c ↔ k ∈ b:=fun k=>by
  rcases hc with rfl | rfl
  ·exact Iff.rfl
  ·exact List.mem_reverse
 have nms:∀ n,n ∈ c.names ↔ n ∈ b.names:=fun n=>by
  constructor
  ·intro z
   obtain ⟨k,hk,e⟩:=List.mem_map.mp z
   exact List.mem_map.mpr ⟨k,(mem k).mp hk,e⟩
  ·intro z
   obtain ⟨k,hk,e⟩:=List.mem_map.mp z
   exact List.mem_map.mpr ⟨k,(mem k).mpr hk,e⟩
 have len:c.length=b.length:=by
  rcases hc with rfl | rfl
  ·rfl
  ·exact List.length_reverse ..
 have ok:c.Ok:=by
  refine ⟨by have:=h.ok.pos; omega,by have:=h.ok.len; omega,?_,fun k hk=>?_⟩
  ·rcases hc with rfl | rfl
   ·exact h.ok.nd
   ·show (b.reverse.map _).Nodup
    rw [List.map_reverse]; exact (List.reverse_perm _).nodup_iff.mpr h.ok.nd
  ·obtain ⟨a1,a2,a3⟩:=h.ok.kd k ((mem k).mp hk)
   exact ⟨a1,a2,fun r hr=>⟨(a3 r hr).1,fun p hp=>(nms _).mpr ((a3 r hr).2 p hp)⟩⟩
 let lv:Str->Nat:=fun n=>b.names.idxOf n
 have b5:b.length<=5:=by have:=h.len; omega
 have lvl:∀ n ∈ c.names,lv n < b.length:=fun n hn=>by
  have:=List.idxOf_lt_length_of_mem ((nms n).mp hn)
  rw [List.length_map] at this
  exact this
 have kat:∀ n ∈ c.names,∀ kd,c.get n=some kd->b[lv n]?=some kd:=fun n hn kd e=>by
  have hn':=(nms n).mp hn
  have h1:=List.getElem_idxOf (List.idxOf_lt_length_of_mem hn')
  have hl:lv n < b.length:=lvl n hn
  rw [List.getElem_map] at h1
  have h2:b.get n=some kd:=(same n).trans e
  have h3:=Bk.get_self h.ok.nd (List.getElem_mem (l:=b) hl)
  rw [show (b[lv n]).n=n from h1,h2] at h3
  rw [List.getElem?_eq_getElem hl]
  exact h3.symm
 have down:∀ n ∈ c.names,∀ kd,c.get n=some kd->∀ r ∈ kd.rs,∀ x ∈ Ru.within r,lv x.1.1 < lv n:=fun n hn kd e r hr x hx=>by
  have h1:=h.ahead (lv n) kd (kat n hn kd e) r hr x hx
  rw [Bk.names,List.map_take] at h1
  obtain ⟨j,hj,ej⟩:=List.getElem_of_mem h1
  rw [List.length_take] at hj
  rw [List.getElem_take] at ej
  have h2:lv x.1.1<=j:=by
   rcases Nat.lt_or_ge j (lv x.1.1) with z | z
   ·have:=List.not_of_lt_findIdx (p:=fun y=>y == x.1.1) (xs:=b.names) (i:=j) z
    exact absurd (by simpa using ej) (by simpa using this)
   ·exact z
  omega
 have ends:∀ n ∈ c.names,EndK c n:=by
  have main:∀ (j:Nat) (n:Str),n ∈ c.names->lv n < j->EndK c n:=by
   intro j
   induction j with
   | zero=>intro n _ h; omega
   | succ j ih =>
    intro n hn hj
    obtain ⟨kd,eg⟩:=Bk.get_of hn
    obtain ⟨km,kn⟩:=Bk.get_some eg
    subst kn
    refine .mk fun m hm=>?_
    rw [adj_self ok km] at hm
    obtain ⟨r,hr,hm⟩:=List.mem_flatMap.mp hm
    obtain ⟨x,hx,rfl⟩:=List.mem_map.mp hm
    have h1:=down _ hn kd eg r hr x hx
    exact ih _ (((ok.kd kd km).2.2 r hr).2 x hx) (by omega)
  exact fun n hn=>main _ n hn (Nat.lt_succ_self _)
 have b1:=h.ok.pos
 have hb:c.length=1\/c.length=2\/c.length=3\/c.length=4\/c.length=5:=by omega
 have e9:(1000000001:Int)<=2 ^ 30:=by decide
 obtain ⟨o1,o2⟩:=own_goodY ok (m:=3) (fun k hk he r hr=>⟨(ok.named hk hr).1.1.mono e9,(ok.named hk hr).1.2.1.mono e9,h.few k ((mem k).mp hk) r hr⟩) (by rcases hb with e | e | e | e | e <;> rw [e] <;> decide) (by rcases hb with e | e | e | e | e <;> rw [e] <;> decide) (by rcases hb with e | e | e | e | e <;> rw [e] <;> decide)
 have R:∀ n ∈ c.names,EndK c n->Lad.R (ownOf c n)/\ownOf c n ≠ .nil:=fun n hn he=>ownOf_R ok he hn
 have bnd:∀ n ∈ c.names,ownOf c n ≠ .nil/\(ownOf c n).parts<=242/\(ownOf c n).deep<=14/\(ownOf c n).Ok (2 ^ 394):=fun n hn=>by
  have z:=o2 n hn (ends n hn)
  refine ⟨z.ne,Nat.le_trans z.parts ?_,Nat.le_trans z.deep ?_,z.ok.mono (two_mono ?_)⟩
  ·rcases hb with e | e | e | e | e <;> rw [e] <;> decide
  ·rcases hb with e | e | e | e | e <;> rw [e] <;> decide
  ·rcases hb with e | e | e | e | e <;> rw [e] <;> decide
 have sm:∀ n ∈ c.names,(ownOf c n).parts<=242/\(ownOf c n).deep<=14:=fun n hn=>⟨(bnd n hn).2.1,(bnd n hn).2.2.1⟩
 have nu:∀ n ∈ c.names,(ownOf c n).Ok (2 ^ 394):=fun n hn=>(bnd n hn).2.2.2
 have g30:∀ {g:Gr},g.Ok 1000000001->Gr.Named c.names g->g.parts<=4->Gr.FitL c (ownOf c) c.names g/\LFitL (Gr.rk c (ownOf c) g):=fun {g} ho hn hp=>by
  have hd:=within_deep g
  have ho':g.Ok (2 ^ 2100):=ho.mono (Int.le_trans e9 (two_mono (by decide)))
  have z:=Gr.rk_len (b:=c) sm hn
  have zp:242*g.parts<=242*4:=Nat.mul_le_mul_left _ hp
  exact ⟨Gr.rk_fitL (fun n hn=>⟨hn,bnd n hn⟩) (by decide) hn ho' (by omega) (by omega) (by omega),LFitL.of (by omega) (by omega) (Gr.rk_okV nu hn ho') (by omega)⟩
 refine ⟨same,nms,lv,ok,ends,o1,R,bnd,⟨⟨fun n hn=>R n hn (ends n hn),fun n hn kd e r hr=>?_,fun n hn kd e=>?_⟩,?_,fun n hn=>Bk.get_of hn,fun n hn kd e=>?_,fun n hn kd e r hr=>?_,fun n hn=>?_,down,fun n hn=>?_⟩⟩
 ·exact ok.named (Bk.get_some e).1 hr
 ·obtain ⟨km,rfl⟩:=Bk.get_some e
  exact ownOf_eq ok km (ends _ hn)
 ·rw [List.length_map]; omega
 ·exact (ok.kd kd (Bk.get_some e).1).2.1
 ·obtain ⟨rok,n1,n2⟩:=ok.named (Bk.get_some e).1 hr
  have rp:=rok.2.2
  exact ⟨g30 rok.1 n1 (by omega),g30 rok.2.1 n2 (by omega)⟩
 ·exact LFitL.of (Nat.le_trans (bnd n hn).2.2.1 (by decide)) (Nat.le_trans (bnd n hn).2.1 (by decide)) (nu n hn) (by decide)
 ·have:=lvl n hn; omega
namespace Made
variable {c:Bk} {lv:Str->Nat}
structure Grv (c:Bk) (g:Gr):Prop where
 fitL:Gr.FitL c (ownOf c) c.names g
 lfL:LFitL (Gr.rk c (ownOf c) g)
 fitW:∀ ns,(∀ n ∈ c.names,EndK c n->n ∈ ns)->Gr.FitW c (ownOf c) ns g
 lfW:LFitW (Gr.rk c (ownOf c) g)
 bd:Gr.Bd c (ownOf c) 4000 (2 ^ 1900) g
 ok:(Gr.rk c (ownOf c) g).Ok (2 ^ 1900)
 parts:(Gr.rk c (ownOf c) g).parts<=4000
 deep:(Gr.rk c (ownOf c) g).deep<=26
theorem grv (M:Made c lv) {g:Gr} (ho:g.Ok (2 ^ 119)) (hn:Gr.Named c.names g) (hp:g.parts<=12) (hd:g.deep<=12):Grv c g:=by
 have sm:∀ n ∈ c.names,(ownOf c n).parts<=242/\(ownOf c n).deep<=14:=fun n hn=>⟨(M.bnd n hn).2.1,(M.bnd n hn).2.2.1⟩
 have nu:∀ n ∈ c.names,(ownOf c n).Ok (2 ^ 394):=fun n hn=>(M.bnd n hn).2.2.2
 have ho':g.Ok (2 ^ 2100):=ho.mono (two_mono (by decide))
 obtain ⟨z1,z2⟩:=Gr.rk_len (b:=c) sm hn
 have oX:=Gr.rk_okX (b:=c) nu hn ho
 have zp:242*g.parts<=242*12:=Nat.mul_le_mul_left _ hp
 refine ⟨Gr.rk_fitL (fun n hn=>⟨hn,M.bnd n hn⟩) (by decide) hn ho' (by omega) (by omega) (by omega),LFitL.of (by omega) (by omega) oX (by omega),fun ns hs=>Gr.FitW.mono (fun n hn=>hs n hn (M.ends n hn)) (Gr.rk_fitXW (ns:=c.names) (fun n hn=>⟨hn,M.bnd n hn⟩) (by decide) hn ho (by omega) (by omega) (by omega)),LFitW.of (by omega) (by omega) oX (by omega),fun x hx=>?_,oX.mono (two_mono (by omega)),by omega,by omega⟩
 obtain ⟨a1,a2,a3,a4⟩:=Gr.named_held hn hx
 have xo:=(Ok_within ho x hx).2.1
 obtain ⟨y1,y2⟩:=Gr.rk_len (b:=c) sm a2
 have yX:=Gr.rk_okX (b:=c) nu a2 xo
 have lp:=Lad.lad_parts (c.wide x.1.1) (ownOf c x.1.1) (Gr.rk c (ownOf c) x.1.2)
 have lo:=Lad.lad_ok (w:=c.wide x.1.1) (nu _ a1) yX (two_pos _) (two_pos _)
 have yp:242*x.1.2.parts<=242*12:=Nat.mul_le_mul_left _ (by omega)
 have q1:=(sm _ a1).1
 refine ⟨by show (lad _ _ _).parts<=4000; omega,lo.mono ?_⟩
 have m1:=two_mono (show 394<=1899 by decide)
 have m2:=two_mono (show 394+121*x.1.2.parts<=1899 by omega)
 have m3:=two_succ 1899
 omega
end Made
namespace Gr
theorem tidy_namedL {ns:List Str} {bs:List (Tr × Int)} (h:∀ p ∈ bs,p.1.1 ∈ ns/\Named ns p.1.2):Named ns (tidy bs):=named_iff.mpr fun p hp=>by
 have hp:p ∈ tdy tEnc bs:=by rw [<- ps_ofPs (tdy tEnc bs)]; exact hp
 obtain ⟨q,hq,e⟩:=tdy_keys (enc:=tEnc) _ p hp
 rw [<- e]
 exact h q hq
end Gr
theorem BkA.pot {K:PySem.W.Frag} {C:Addr} {H H':Hp} {v:V} {b:Bk} {p c:Addr} (h:BkA K C H v b) (hp:PotC H p c) (s:SB [p] H H'):BkA K C H' v b:=by
 obtain ⟨a,dx,d1,d2,us,rfl,h1,h2,h3,h4⟩:=h
 obtain ⟨ns,at_,l,sd,a1,a2,a3⟩:=hp
 have n1:a ≠ p:=fun z=>by rw [z,a1] at h1; cases h1
 have n2:d1 ≠ p:=fun z=>by
  rw [z,a1] at h2
  have e:potK c at_ l sd=b.spKV:=by injection (Option.some.inj h2)
  have e2:=congrArg (fun x=>x[0]?) e
  cases b with
  | nil=>cases e2
  | cons k r =>
   have e3:some ((Sum.inr "cells":Key),V.ref c)=some ((Sum.inr k.n:Key),V.bl k.w):=e2
   injection e3 with e3
   injection e3 with e4 e5
   cases e5
 have n3:d2 ≠ p:=fun z=>by
  rw [z,a1] at h3
  have e:potK c at_ l sd=b.rowKV us:=by injection (Option.some.inj h3)
  cases h4 with
  | nil=>cases e
  | cons x1 r1 =>
   cases r1 with
   | nil =>
    have e2:=congrArg (fun x=>x[1]?) e
    have e3:some ((Sum.inr "at":Key),V.int at_)=none:=e2
    cases e3
   | cons x2 r2 =>
    have e2:=congrArg (fun x=>x[1]?) e
    have e3:some ((Sum.inr "at":Key),V.int at_)=some (_,_):=e2
    injection e3 with e3
    injection e3 with e4 e5
    rw [<- e5] at x2
    cases x2
 exact ⟨a,dx,d1,d2,us,rfl,s.keep _ _ h1 (by simpa using n1),s.keep _ _ h2 (by simpa using n2),s.keep _ _ h3 (by simpa using n3),h4.sb s Kd.noList_rowE⟩
structure LeastOut (P:Str->Prop) (g:Gr) (n:Str):Prop where
 mem:n ∈ g.within.map (·.1.1)
 out:P n
 low:∀ m ∈ g.within.map (·.1.1),P m->¬ m.cps.toList < n.cps.toList
def spCheckKX (K:PySem.W.Frag) (C N:Addr):Sp:=fun vs H Q E=>∃ (v w:V) (b:Bk) (g:Gr) (ns:List Str),vs=[v,w]/\BkA K C H v b/\GA K H w g/\b.length<=60/\g.deep<=68/\g.parts<=3000/\Gr.Named ns g/\ns.length<=60/\(Gr.Named b.names g->∀ H',SB [] H H'->Q .non H') /\
 ∀ n,LeastOut (fun m=>m ∉ b.names) g n->∀ (d:Addr) (H':Hp),SB [] H H'->H d=none->H' d=some (.xd [("kind",.str n)])->E (.ref N) (some d) H'
def spChkEX (K:PySem.W.Frag) (C N EE:Addr):Sp:=fun vs H Q E=>∃ (v w:V) (b:Bk) (g:Gr),vs=[v,w]/\BkA K C H v b/\b.Ok/\GA K H w g/\g.deep<=68/\g.parts<=3000/\Gr.Named b.names g/\((∀ x ∈ g.within,EndK b x.1.1)->∀ H',SB [] H H'->Q .non H') /\
 ∀ n,LeastOut (fun m=>¬ EndK b m) g n->∀ (d:Addr) (H':Hp),SB [] H H'->H d=none->H' d=some (.xd [("kind",.str n)])->E (.ref EE) (some d) H'
theorem sorted_drop {ss:List Str} (h:sortedS ss=true):∀ (i:Nat),sortedS (ss.drop i)=true
 | 0=>h
 | i+1=>by
  have ih:=sorted_drop h i
  cases e:ss.drop i with
  | nil=>rw [List.drop_eq_nil_iff] at e; rw [List.drop_eq_nil_iff.mpr (by omega)]; rfl
  | cons x r =>
   rw [e] at ih
   have:ss.drop (i+1)=r:=by rw [<- List.drop_drop,e]; rfl
   rw [this]; exact sortedS_tail ih
theorem LeastOut.at {P:Str->Prop} {g:Gr} {ss:List Str} (so:SrtOf ss (g.within.map (·.1.1))) {i:Nat} {n:Str} (en:ss[i]?=some n) (hp:P n) (hb:∀ m ∈ ss.take i,¬ P m):LeastOut P g n:=⟨(so.mem n).mp (List.mem_of_getElem? en),hp,fun m hm hP=>by
 have hm:=(so.mem m).mpr hm
 rw [<- List.take_append_drop i ss] at hm
 rcases List.mem_append.mp hm with z | z
 ·exact absurd hP (hb m z)
 ·obtain ⟨hi,e⟩:=List.getElem?_eq_some_iff.mp en
  have hd:=sorted_drop so.srt i
  rw [List.drop_eq_getElem_cons hi,e] at z hd
  rcases List.mem_cons.mp z with z | z
  ·rw [z]; exact List.lt_irrefl _
  ·exact rising_all hd m z⟩
def spRankW (K:PySem.W.Frag) (C N EE:Addr):Sp:=fun vs H Q E=>∃ (v w:V) (b:Bk) (ρ:Str->Lad) (g:Gr),vs=[v,w]/\BkA K C H v b/\b.Ok/\OwnR b ρ/\GA K H w g/\g.deep < 20/\g.parts<=900/\Gr.Named b.names g/\(∀ x ∈ g.within,EndK b x.1.1)/\(∀ ns,(∀ n ∈ b.names,EndK b n->n ∈ ns)->Gr.FitW b ρ ns g)/\∀ (x:V) (H':Hp),SB [] H H'->LA K H' x (Gr.rk b ρ g)->Q x H'
instance strOrd:Orderly PyData.str where
 al a b:=by simp [alike]
 eq a b:=by simp [PyData.eqv,Gr.sb]
theorem cps_one {a b:Str} (h1:¬ a.cps.toList < b.cps.toList) (h2:¬ b.cps.toList < a.cps.toList):a=b:=by
 have e1:dataLt (.str a) (.str b)=false:=by rw [dataLt_str]; exact decide_eq_false h1
 have e2:dataLt (.str b) (.str a)=false:=by rw [dataLt_str]; exact decide_eq_false h2
 exact Classical.byContradiction fun z=>by
  have:=ol_tri (enc:=PyData.str) z e1
  rw [e2] at this; cases this
theorem LeastOut.one {P:Str->Prop} {g:Gr} {n m:Str} (h1:LeastOut P g n) (h2:LeastOut P g m):n=m:=cps_one (h2.low n h1.mem h1.out) (h1.low m h2.mem h2.out)
theorem LeastOut.not {b:Bk} {g:Gr} {n:Str} (h:LeastOut (fun m=>m ∉ b.names) g n) (hn:Gr.Named b.names g):False:=by
 obtain ⟨x,hx,e⟩:=List.mem_map.mp h.mem
 exact h.out (e ▸ hn x hx)
section
variable {K:PySem.W.Frag} {H H':Hp}
mutual
theorem Dp_s0 (e:SB [] H H'):∀ (d:PyData) (v:V),Dp K H v d->Dp K H' v d
 | .none,_,h=>by cases h; exact .non
 | .bool b,_,h=>by cases h; exact .bl b
 | .int i,_,h=>by cases h; exact .int i
 | .str x,_,h=>by cases h; exact .str x
 | .list ds,_,h=>by
  cases h with
  | lst hs ha=>exact .lst (e.sqL nmn hs) (DpAll_s0 e ds _ ha)
 | .dict ds,_,h=>by cases h
 | .tuple ds,_,h=>by
  cases h with
  | tup hs ha=>exact .tup (e.sqT hs) (DpAll_s0 e ds _ ha)
theorem DpAll_s0 (e:SB [] H H'):∀ (ds:List PyData) (vs:List V),DpAll K H vs ds->DpAll K H' vs ds
 | [],_,h=>by cases h; exact .nil
 | d::ds,_,h=>by
  cases h with
  | cons h1 h2=>exact .cons (Dp_s0 e d _ h1) (DpAll_s0 e ds _ h2)
end
end
end FT
namespace L2
open PySem PySem.Spec PyProof.Rows
def goneD (i:Nat) (D:Ends):Ends:={ nx:=fun σ' H'=>D.nx (σ'.set i none) H',rt:=D.rt,bk:=fun σ' H'=>D.bk (σ'.set i none) H',ct:=fun σ' H'=>D.ct (σ'.set i none) H' }
def wManyN (K:PySem.W.Frag) (Wout:WX) (D:Ends):List (Value × Option Nat × (Addr->Value->Option Addr->TS))->WX
 | []=>Wout
 | (c,none,ts)::r=>fun cls d σ H=>∃ b,PySem.W.exmOne K cls c=some b/\(b=true->∀ a,H a=none->ts a cls d D σ H)/\(b=false->wManyN K Wout D r cls d σ H)
 | (c,some i,ts)::r=>fun cls d σ H=>∃ b,PySem.W.exmOne K cls c=some b/\(b=true->∀ a,H a=none->ts a cls d (goneD i D) (σ.set i (some (.ref a))) H)/\(b=false->wManyN K Wout D r cls d σ H)
inductive HdsN (X:Cx):List ExceptHandler->List (Value × Option Nat × (Addr->Value->Option Addr->TS))->Prop
 | nil:HdsN X [] []
 | plain {x:Str} {c:Value} {ts:Addr->Value->Option Addr->TS} {b₀:Stmt} {suite:List Stmt} {np pos':Pos} {hds:List ExceptHandler} {l:List (Value × Option Nat × (Addr->Value->Option Addr->TS))} (hc:Names X x c)
   (hsu:∀ (a:Addr) (oe:Obj) (cls:Value) (d:Option Addr) (pn:List (Addr × Obj)),Zc cls d oe->(∃ vs,oe.data=.fields vs)->PSs (X.suite a ((a,oe)::pn)) (b₀::suite) (ts a cls d)) (r:HdsN X hds l) :
   HdsN X (.ExceptHandler (some (.Name x np)) none (b₀::suite) pos'::hds) ((c,none,ts)::l)
 | named {x n:Str} {c:Value} {i:Nat} {ts:Addr->Value->Option Addr->TS} {b₀:Stmt} {suite:List Stmt} {np pos':Pos} {hds:List ExceptHandler} {l:List (Value × Option Nat × (Addr->Value->Option Addr->TS))} (hi:X.N[i]?=some n) (hln:X.env.kindOf n=some .local) (hc:Names X x c)
   (hsu:∀ (a:Addr) (oe:Obj) (cls:Value) (d:Option Addr) (pn:List (Addr × Obj)),Zc cls d oe->(∃ vs,oe.data=.fields vs)->PSs (X.suite a ((a,oe)::pn)) (b₀::suite) (ts a cls d)) (r:HdsN X hds l) :
   HdsN X (.ExceptHandler (some (.Name x np)) (some n) (b₀::suite) pos'::hds) ((c,some i,ts)::l)
section
variable {X:Cx} {body:List Stmt} {h₀:ExceptHandler} {hds:List ExceptHandler} {l:List (Value × Option Nat × (Addr->Value->Option Addr->TS))} {pos:Pos} {tb:WX->TS} {Wout:WX}
theorem ps_try_manyN (hs:X.stack=X.env::X.outer) (hf:X.env.frame=some X.env.locals) (hN:X.N.Nodup) (tk:Takes X Wout)
  (hb:∀ (W:WX) (pn:List (Addr × Obj)) (xe:Value->Shared->Prop),Takes (X.tr pn xe) W->PassesOwn (model X.prog X.w) X.A X.env xe->PSs (X.tr pn xe) body (tb W))
  (hh:HdsN X (h₀::hds) l):PS X (.Try body (h₀::hds) [] [] pos) (fun D σ H=>tb (wManyN X.K Wout D l) D σ H):=by
 refine ⟨fun pins s σ H D I h=>?_⟩
 have ok:=I.ok
 have hfr:X.A.frames=some (X.env::X.outer):=by rw [ok.frames,hs]
 refine wpAny_Try_except ?_
 refine wpAny_mono ((hb (wManyN X.K Wout D l) (X.pn++pins) (fun e s₁=>wpAny (model X.prog X.w) X.A (noteFrame e X.env) (fun _ s₂=>wpAny (model X.prog X.w) X.A (setFlight e none) (fun _ s₃ =>
  wpAny (model X.prog X.w) X.A (handleBy e X.env (h₀::hds)) (SP X pins D) X.xe s₃) X.xe s₂) X.xe s₁) (fun u s' xx=>?_) PassesOwn.looking).run [] s σ H D (I.toTry _) h) (fun f s1 hsp=>?_) (fun e s1 he=>he)
 ·-- the catch
  obtain ⟨a,B,sI,pins',σ',H',cls,d,rfl,J',nb,up,sky,na,os,ag,w⟩:=xx
  have J:Inv X pins σ' H' sI:=J'.ofTry ok
  have sky':Sky B (X.env::X.outer) a (Zc cls d) X.env.locals s'.heap:=by rw [<- hs]; exact sky
  show wpAny (model X.prog X.w) X.A (noteFrame (.ref a) X.env) _ _ _
  refine Sky.land Zc.steady hfr hf sky' fun h3 fl3 up3=>?_
  have J3:Inv X pins σ' H' { s' with heap:=h3 }:=J.landed nb fl3.1 (up.trans up3) os ag
  obtain ⟨oe3,vs3,he3,hz3,hd3⟩:=fl3.there
  have notFr:∀ {h:Heap} {o:Obj} {vs:Array Value},h.FunFrames B (X.env::X.outer)->h.get? a=some o->o.data=.fields vs->a ∉ frs (X.env::X.outer):=fun {h o vs} ff e dd hm=>by
   obtain ⟨_,o',e',hnf⟩:=ff.mem hm
   rw [e] at e'; cases e'
   exact hnf _ dd
  have nfr:=notFr fl3.2.2.1 he3 hd3
  have nL:a ≠ X.env.locals:=fun z=>nfr (List.mem_filterMap.mpr ⟨X.env,FT.mcs,by rw [hf,z]⟩)
  have nF:a ∉ X.fs:=fun hm=>by
   obtain ⟨e,he,q⟩:=List.mem_filterMap.mp hm
   exact nfr (List.mem_filterMap.mpr ⟨e,FT.mcm _ he,q⟩)
  have S3:=J3.suite he3 hd3 na nL nF
  have go:∀ {hds':List ExceptHandler} {l':List (Value × Option Nat × (Addr->Value->Option Addr->TS))},HdsN X hds' l'->wManyN X.K Wout D l' cls d σ' H' ->
    wpAny (model X.prog X.w) X.A (handleBy (.ref a) X.env hds') (SP X pins D) X.xe { s' with heap:=h3 }:=by
   intro hds' l' hk
   induction hk with
   | nil =>
    intro w
    refine wpAny_handleBy_nil ?_
    obtain ⟨k1,k2,k3,oe,vs,T,oT,ts',he,hz,hd,h1,hr⟩:=id fl3
    unfold PySem.passOn
    refine wpAny_bind (wpAny_field he hd h1 ?_)
    rw [if_neg (show ¬ ((Value.ref T == Value.none)=true) from by simp)]
    have fin:wpAny (model X.prog X.w) X.A (setFlight (.ref a) X.env.frame) (fun _ s4=>wpAny (model X.prog X.w) X.A (throw (.ref a):Sem Flow) (SP X pins D) X.xe s4) X.xe { s' with heap:=h3 }:=by
     rw [hf]
     refine HandSPX.setFlight_upZ fl3 fun h4 hh4 up4=>wpAny_throw (tk _ _ ?_)
     exact ⟨a,B,sI,pins,σ',H',cls,d,rfl,J,nb,(up.trans up3).trans up4,.inr (.inr (by rw [hs]; exact hh4)),na,os,ag,w⟩
    first
     | exact wpAny_bind (wpAny_pure (wpAny_bind fin))
     | exact wpAny_bind fin
   | @plain x c ts b₀ suite np pos' hds2 l2 hc hsu r ih =>
    intro w
    obtain ⟨b,hb1,hyes,hno⟩:=w
    refine wpAny_handleBy_cons (codeAny_handlers_test ?_) (by intro q; cases q)
    have LT:PySem.W.Looks (model X.prog X.w) h3 (typeOf (.ref a)) cls:=fun A Q E s k q=>wpAny_typeOf_ref (k _ _ he3) (by rw [hz3.1]; exact q)
    have LM:=PySem.W.exm_one (M:=model X.prog X.w) (J3.kIn) LT hb1
    have test:∀ {Q:Value->Shared->Prop} {E:Value->Shared->Prop},Q c { s' with heap:=h3 }->wpAny (model X.prog X.w) (X.A.mark (some (.ref a))) (eval (.Name x np) X.env) Q E { s' with heap:=h3 }:=fun {Q E} q=>by
     obtain ⟨hg,hdbg,hm | ⟨hm,hv,hnn⟩⟩:=hc
     ·exact ld_glob (X:=X.suite a ((a,oe3)::(X.pn++pins))) S3 hg hm q hdbg
     ·exact ld_blt (X:=X.suite a ((a,oe3)::(X.pn++pins))) S3 hg hm hv q hnn hdbg
    refine test (LM.here ?_)
    cases b with
    | true =>
     refine codeAny_handlers_suite ?_
     refine HandSPX.lands_againZ fl3 fun h4 fl4 up4=>?_
     have J4:Inv X pins σ' H' { s' with heap:=h4 }:=J.landed nb fl4.1 ((up.trans up3).trans up4) os ag
     obtain ⟨oe4,vs4,he4,hz4,hd4⟩:=fl4.there
     have S4:=J4.suite he4 hd4 na nL nF
     refine wpAny_mono ((hsu a oe4 cls d (X.pn++pins) hz4 ⟨_,hd4⟩).run [] _ _ H' _ S4 (hyes rfl a na)) (fun f s6 hsp=>?_) (fun _ _ z=>False.elim z)
     cases f with
     | next =>
      obtain ⟨σ6,H6,S6,q6⟩:=hsp
      exact ⟨_,_,S6.unsuite ok,q6⟩
     | brk =>
      obtain ⟨σ6,H6,S6,q6⟩:=hsp
      exact ⟨_,_,S6.unsuite ok,q6⟩
     | cont =>
      obtain ⟨σ6,H6,S6,q6⟩:=hsp
      exact ⟨_,_,S6.unsuite ok,q6⟩
     | ret u =>
      obtain ⟨v6,σ6,H6,S6,r6,q6⟩:=hsp
      exact ⟨_,_,_,S6.unsuite ok,r6,q6⟩
    | false =>
     show wpAny _ X.A (handleBy (.ref a) X.env hds2) _ _ _
     exact ih (hno rfl)
   | @named x n c i ts b₀ suite np pos' hds2 l2 hi hln hc hsu r ih =>
    intro w
    obtain ⟨b,hb1,hyes,hno⟩:=w
    refine wpAny_handleBy_cons (codeAny_handlers_test ?_) (by intro q; cases q)
    have LT:PySem.W.Looks (model X.prog X.w) h3 (typeOf (.ref a)) cls:=fun A Q E s k q=>wpAny_typeOf_ref (k _ _ he3) (by rw [hz3.1]; exact q)
    have LM:=PySem.W.exm_one (M:=model X.prog X.w) (J3.kIn) LT hb1
    have test:∀ {Q:Value->Shared->Prop} {E:Value->Shared->Prop},Q c { s' with heap:=h3 }->wpAny (model X.prog X.w) (X.A.mark (some (.ref a))) (eval (.Name x np) X.env) Q E { s' with heap:=h3 }:=fun {Q E} q=>by
     obtain ⟨hg,hdbg,hm | ⟨hm,hv,hnn⟩⟩:=hc
     ·exact ld_glob (X:=X.suite a ((a,oe3)::(X.pn++pins))) S3 hg hm q hdbg
     ·exact ld_blt (X:=X.suite a ((a,oe3)::(X.pn++pins))) S3 hg hm hv q hnn hdbg
    refine test (LM.here ?_)
    cases b with
    | true =>
     have hloc:Loc X.env.scope n:=.inl hln
     refine codeAny_handlers_suite_as ?_
     refine HandSPX.lands_againZ fl3 fun h4 fl4 up4=>?_
     have J4:Inv X pins σ' H' { s' with heap:=h4 }:=J.landed nb fl4.1 ((up.trans up3).trans up4) os ag
     obtain ⟨oe4,vs4,he4,hz4,hd4⟩:=fl4.there
     have S4:=J4.suite he4 hd4 na nL nF
     refine store_ok (X:=X.suite a ((a,oe4)::(X.pn++pins))) (v:=.ref a) S4 hN hi hloc rfl (fun s5 S5=>?_) (.inr hln)
     refine wpAny_mono ((hsu a oe4 cls d (X.pn++pins) hz4 ⟨_,hd4⟩).run [] s5 _ H' _ S5 (hyes rfl a na)) (fun f s6 hsp=>?_) (fun _ _ z=>False.elim z)
     have end_:∀ {σ6:St} {H6:Hp} {Q:Shared->Prop},Inv (X.suite a ((a,oe4)::(X.pn++pins))) [] σ6 H6 s6->(∀ s7,Inv X pins (σ6.set i none) H6 s7->Q s7) ->
       wpAny (model X.prog X.w) X.A (do bindName X.env n .none; unbindBehindTheSuite X.env n pos') (fun _ s7=>Q s7) X.xe s6:=fun {σ6 H6 Q} S6 hq=>gone_ok (S6.unsuite ok) hN hi hln hq
     cases f with
     | next =>
      obtain ⟨σ6,H6,S6,q6⟩:=hsp
      exact end_ S6 fun s7 J7=>⟨_,_,J7,q6⟩
     | brk =>
      obtain ⟨σ6,H6,S6,q6⟩:=hsp
      exact end_ S6 fun s7 J7=>⟨_,_,J7,q6⟩
     | cont =>
      obtain ⟨σ6,H6,S6,q6⟩:=hsp
      exact end_ S6 fun s7 J7=>⟨_,_,J7,q6⟩
     | ret u =>
      obtain ⟨v6,σ6,H6,S6,r6,q6⟩:=hsp
      exact end_ S6 fun s7 J7=>⟨_,_,_,J7,r6,q6⟩
    | false =>
     show wpAny _ X.A (handleBy (.ref a) X.env hds2) _ _ _
     exact ih (hno rfl)
  exact go hh w
 ·cases f with
  | next =>
   obtain ⟨σ',H',J',q⟩:=hsp
   exact wpAny_execs_nil ⟨σ',H',J'.ofTry ok,q⟩
  | brk =>
   obtain ⟨σ',H',J',q⟩:=hsp
   exact ⟨σ',H',J'.ofTry ok,q⟩
  | cont =>
   obtain ⟨σ',H',J',q⟩:=hsp
   exact ⟨σ',H',J'.ofTry ok,q⟩
  | ret u =>
   obtain ⟨v,σ',H',J',r,q⟩:=hsp
   exact ⟨v,σ',H',J'.ofTry ok,r,q⟩
end
end L2
namespace FT
open PySem PySem.W PySem.Spec PyProof.Rows L2
inductive Ho where
 | kind (n:Str)
 | endl (n:Str)
 | fine
def Ho.vs:Ho->List V
 | .kind n=>[.str "kind",.str n]
 | .endl n=>[.str "endless",.str n]
 | .fine=>[.str "none",.str ""]
def Ho.ds:Ho->List PyData
 | .kind n=>[.str "kind",.str n]
 | .endl n=>[.str "endless",.str n]
 | .fine=>[.str "none",.str ""]
theorem Ho.dp (K:PySem.W.Frag) (H:Hp) (o:Ho):DpAll K H o.vs o.ds:=by
 cases o <;> exact .cons (.str _) (.cons (.str _) .nil)
inductive HDue (b1:Bk) (g1:Gr) (b2:Bk) (g2:Gr):Ho->Prop
 | k1 {n:Str}:LeastOut (fun m=>m ∉ b1.names) g1 n->HDue b1 g1 b2 g2 (.kind n)
 | k2 {n:Str}:Gr.Named b1.names g1->LeastOut (fun m=>m ∉ b2.names) g2 n->HDue b1 g1 b2 g2 (.kind n)
 | e1 {n:Str}:Gr.Named b1.names g1->Gr.Named b2.names g2->LeastOut (fun m=>¬ EndK b1 m) g1 n->HDue b1 g1 b2 g2 (.endl n)
 | e2 {n:Str}:Gr.Named b1.names g1->Gr.Named b2.names g2->(∀ x ∈ g1.within,EndK b1 x.1.1)->LeastOut (fun m=>¬ EndK b2 m) g2 n->HDue b1 g1 b2 g2 (.endl n)
 | fine:Gr.Named b1.names g1->Gr.Named b2.names g2->(∀ x ∈ g1.within,EndK b1 x.1.1)->(∀ x ∈ g2.within,EndK b2 x.1.1)->HDue b1 g1 b2 g2 .fine
theorem LeastOut.notE {b:Bk} {g:Gr} {n:Str} (h:LeastOut (fun m=>¬ EndK b m) g n) (hn:∀ x ∈ g.within,EndK b x.1.1):False:=by
 obtain ⟨x,hx,e⟩:=List.mem_map.mp h.mem
 exact h.out (e ▸ hn x hx)
theorem HDue.uniq {b1 b2:Bk} {g1 g2:Gr} {o o':Ho} (h:HDue b1 g1 b2 g2 o) (h':HDue b1 g1 b2 g2 o'):o=o':=by
 cases h with
 | k1 l=>cases h' with
  | k1 l'=>rw [l.one l']
  | k2 a _=>exact (l.not a).elim
  | e1 a _ _=>exact (l.not a).elim
  | e2 a _ _ _=>exact (l.not a).elim
  | fine a _ _ _=>exact (l.not a).elim
 | k2 a l=>cases h' with
  | k1 l'=>exact (l'.not a).elim
  | k2 _ l'=>rw [l.one l']
  | e1 _ c _=>exact (l.not c).elim
  | e2 _ c _ _=>exact (l.not c).elim
  | fine _ c _ _=>exact (l.not c).elim
 | e1 a c l=>cases h' with
  | k1 l'=>exact (l'.not a).elim
  | k2 _ l'=>exact (l'.not c).elim
  | e1 _ _ l'=>rw [l.one l']
  | e2 _ _ d _=>exact (l.notE d).elim
  | fine _ _ d _=>exact (l.notE d).elim
 | e2 a c d l=>cases h' with
  | k1 l'=>exact (l'.not a).elim
  | k2 _ l'=>exact (l'.not c).elim
  | e1 _ _ l'=>exact (l'.notE d).elim
  | e2 _ _ _ l'=>rw [l.one l']
  | fine _ _ _ f=>exact (l.notE f).elim
 | fine a c d f=>cases h' with
  | k1 l'=>exact (l'.not a).elim
  | k2 _ l'=>exact (l'.not c).elim
  | e1 _ _ l'=>exact (l'.notE d).elim
  | e2 _ _ _ l'=>exact (l'.notE f).elim
  | fine _ _ _ _=>rfl
structure Hnd (K:PySem.W.Frag) (C:Addr) (H:Hp) (v w:V) (b:Bk) (g:Gr) (ns:List Str):Prop where
 bk:BkA K C H v b
 ok:b.Ok
 ga:GA K H w g
 deep:g.deep<=68
 parts:g.parts<=3000
 nm:Gr.Named ns g
 nl:ns.length<=60
theorem Hnd.sb0 {K:PySem.W.Frag} {C:Addr} {H H':Hp} {v w:V} {b:Bk} {g:Gr} {ns:List Str} (h:Hnd K C H v w b g ns) (s:SB [] H H'):Hnd K C H' v w b g ns:=⟨h.bk.sb0 s,h.ok,h.ga.sb s,h.deep,h.parts,h.nm,h.nl⟩
structure RkIn (b:Bk) (ρ:Str->Lad) (g:Gr):Prop where
 ow:OwnR b ρ
 deep:g.deep < 20
 parts:g.parts<=900
 fit:∀ ns,(∀ n ∈ b.names,EndK b n->n ∈ ns)->Gr.FitW b ρ ns g
 rd:(Gr.rk b ρ g).deep<=45
def HoX (NK EE:Addr) (H:Hp) (E:XK) (P:Prop):Ho->Prop
 | .kind n=>∀ (d:Addr) (H':Hp),SB [] H H'->H d=none->H' d=some (.xd [("kind",.str n)])->E (.ref NK) (some d) H'
 | .endl n=>∀ (d:Addr) (H':Hp),SB [] H H'->H d=none->H' d=some (.xd [("kind",.str n)])->E (.ref EE) (some d) H'
 | .fine=>P
def spHands (K:PySem.W.Frag) (C NK EE:Addr):Sp:=fun vs H Q E=>∃ (v1 w1 v2 w2:V) (b1 b2:Bk) (g1 g2:Gr) (ns1 ns2:List Str) (o:Ho),vs=[v1,w1,v2,w2]/\Hnd K C H v1 w1 b1 g1 ns1/\Hnd K C H v2 w2 b2 g2 ns2/\HDue b1 g1 b2 g2 o/\HoX NK EE H E (∀ H',SB [] H H'->Q .non H') o
def spOutl (K:PySem.W.Frag) (C NK EE:Addr):Sp:=fun vs H Q E=>∃ (v1 w1 v2 w2:V) (b1 b2:Bk) (g1 g2:Gr) (ns1 ns2:List Str) (o:Ho),vs=[v1,w1,v2,w2]/\Hnd K C H v1 w1 b1 g1 ns1/\Hnd K C H v2 w2 b2 g2 ns2/\HDue b1 g1 b2 g2 o/\HoX NK EE H E (∃ ρ1 ρ2:Str->Lad,RkIn b1 ρ1 g1/\RkIn b2 ρ2 g2/\∀ H',SB [] H H'->Q (.bl ((Gr.rk b2 ρ2 g2).lt (Gr.rk b1 ρ1 g1))) H') o
def spDuelI (K:PySem.W.Frag) (CD C NK EE:Addr):Sp:=fun vs H Q E=>∃ (x dx:Addr) (v1 w1 v2 w2:V) (b1 b2:Bk) (g1 g2:Gr) (ns1 ns2:List Str) (o:Ho),vs=[.ref x,v1,w1,v2,w2]/\H x=some (.ins CD dx [])/\Hnd K C H v1 w1 b1 g1 ns1/\Hnd K C H v2 w2 b2 g2 ns2/\HDue b1 g1 b2 g2 o/\HoX NK EE H E (∀ H',SB [x] H H'->Q .non H') o
def spRefl57 (K:PySem.W.Frag) (C:Addr):Sp:=fun vs H Q _=>∃ (way:Int) (v1 w1 v2 w2:V) (b1 b2:Bk) (g1 g2:Gr) (ns1 ns2:List Str) (o:Ho),vs=[.int way,v1,w1,v2,w2]/\Hnd K C H v1 w1 b1 g1 ns1/\Hnd K C H v2 w2 b2 g2 ns2/\HDue b1 g1 b2 g2 o/\(o=.fine->∃ ρ1 ρ2:Str->Lad,RkIn b1 ρ1 g1/\RkIn b2 ρ2 g2)/\∀ (T:Addr) (H':Hp),SB [] H H'->SqT K H' T o.vs->Q (.ref T) H'
def KvF (K:PySem.W.Frag) (H:Hp) (bad:List Addr) (v:V) (k:Kd):Prop:=∃ (t l:Addr) (zs:List V),v=.ref t/\SqT K H t [.bl k.w,.ref l]/\H l=some (.lst zs)/\Bears K H Ru.enc zs k.rs/\l ∉ bad
def KvN (K:PySem.W.Frag) (H H0:Hp) (v:V) (k:Kd):Prop:=∃ (t l:Addr) (zs:List V),v=.ref t/\SqT K H t [.bl k.w,.ref l]/\H l=some (.lst zs)/\Bears K H Ru.enc zs k.rs/\H0 l=none
section
variable {K:PySem.W.Frag} {H H' H0:Hp} {bad ps:List Addr} {v:V} {k:Kd} {A d:Addr} {b:Bk}
theorem KvN.sb (h:KvN K H H0 v k) (e:SB ps H H') (hn:NoL H ps):KvN K H' H0 v k:=by
 obtain ⟨t,l,zs,e1,e2,e3,e4,e5⟩:=h
 exact ⟨t,l,zs,e1,e.sqT e2,e.keep _ _ e3 (fun z=>hn l z zs e3),e4.sb e Ru.noList_enc,e5⟩
theorem KvN.to (h:KvN K H H0 v k) (hb:∀ x ∈ bad,H0 x ≠ none):KvF K H bad v k:=by
 obtain ⟨t,l,zs,e1,e2,e3,e4,e5⟩:=h
 exact ⟨t,l,zs,e1,e2,e3,e4,fun z=>hb l z e5⟩
theorem KvF.sb (h:KvF K H bad v k) (e:SB ps H H') (hn:NoLst H bad ps):KvF K H' bad v k:=by
 obtain ⟨t,l,zs,e1,e2,e3,e4,e5⟩:=h
 exact ⟨t,l,zs,e1,e.sqT e2,e.keep _ _ e3 (fun z=>(hn l z).elim e5 fun q=>q zs e3),e4.sb e Ru.noList_enc,e5⟩
theorem KvF.more (h:KvF K H bad v k) (hA:H A=none):KvF K H (A::bad) v k:=by
 obtain ⟨t,l,zs,e1,e2,e3,e4,e5⟩:=h
 exact ⟨t,l,zs,e1,e2,e3,e4,fun z=>(List.mem_cons.mp z).elim (fun z=>by rw [z,hA] at e3; cases e3) e5⟩
def DkF (K:PySem.W.Frag) (H:Hp) (bad:List Addr) (d:Addr) (b:Bk):Prop:=∃ us:List V,H d=some (.dK (nKV b.names us))/\PairedL (KvF K H bad) us b
theorem DkF.sb (h:DkF K H bad d b) (e:SB ps H H') (hd:d ∉ ps) (hn:NoLst H bad ps):DkF K H' bad d b:=by
 obtain ⟨us,h1,h2⟩:=h
 exact ⟨us,e.keep _ _ h1 hd,h2.mono fun _ _ q=>q.sb e hn⟩
theorem DkF.more (h:DkF K H bad d b) (hA:H A=none):DkF K H (A::bad) d b:=by
 obtain ⟨us,h1,h2⟩:=h
 exact ⟨us,h1,h2.mono fun _ _ q=>q.more hA⟩
theorem DkF.dk (h:DkF K H bad d b):DkB K H d b:=by
 obtain ⟨us,h1,h2⟩:=h
 exact ⟨us,h1,h2.mono fun _ _ ⟨t,l,zs,e1,e2,e3,e4,_⟩=>⟨t,l,zs,e1,e2,e3,e4⟩⟩
end
def spBook57 (K:PySem.W.Frag):Sp:=fun vs H Q _=>∃ (p cl t:Addr) (m:Nat) (ts:List Str),vs=[.ref p,.int (m:Int),.ref t]/\PotC H p cl/\1<=m/\m<=6/\H t=some (.lst (ts.map V.str))/\t ≠ p/\ts.Nodup/\(∀ k ∈ ts,NameOk k)/\ts.length<=m/\∀ (d:Addr) (b:Bk) (H':Hp),SB [p] H H'->PotC H' p cl->H d=none->d ≠ p->(∀ bad,(∀ x ∈ bad,H x ≠ none)->DkF K H' bad d b)->Drawn b m->Q (.ref d) H'
structure Sd (K:PySem.W.Frag) (C:Addr) (H:Hp) (bad:List Addr) (d bk:Addr) (w:V) (b c:Bk) (g:Gr):Prop where
 dk:DkF K H bad d b
 dr:Drawn b 4
 tr:c=b\/c=b.reverse
 bk:BkA K C H (.ref bk) c
 ga:GA K H w g
 go:g.Ok (2 ^ 100)
 parts:g.parts<=7
 deep:g.deep<=7
 nm:Gr.Named c.names g
def spTwo57 (K:PySem.W.Frag) (C:Addr):Sp:=fun vs H Q _=>∃ (p cl:Addr),vs=[.ref p]/\PotC H p cl/\∀ (L a1 a2 d1 d2 k1 k2:Addr) (w1 w2:V) (b1 b2 c1 c2:Bk) (g1 g2:Gr) (H':Hp),SB [p] H H'->PotC H' p cl->H' L=some (.lst [.ref a1,.ref a2])->H' a1=some (.lst [.ref d1,.ref k1,w1])->H' a2=some (.lst [.ref d2,.ref k2,w2])->Sd K C H' [] d1 k1 w1 b1 c1 g1->Sd K C H' [] d2 k2 w2 b2 c2 g2->Q (.ref L) H'
def spRefd57 (K:PySem.W.Frag) (C:Addr):Sp:=fun vs H Q _=>∃ (way:Int) (d k:Addr) (w:V) (b c:Bk) (g:Gr),vs=[.int way,.ref k,w]/\Sd K C H [] d k w b c g/\∀ H',SB [] H H'->Q (.bl true) H'
section
variable {K:PySem.W.Frag} {C:Addr} {H H':Hp} {bad ps:List Addr} {d bk p cl A:Addr} {w:V} {b c:Bk} {g:Gr}
theorem Sd.sb0 (h:Sd K C H bad d bk w b c g) (s:SB [] H H'):Sd K C H' bad d bk w b c g:=⟨h.dk.sb s nmn NoLst.nil,h.dr,h.tr,h.bk.sb0 s,h.ga.sb s,h.go,h.parts,h.deep,h.nm⟩
theorem Sd.pot (h:Sd K C H bad d bk w b c g) (hp:PotC H p cl) (dp:d ≠ p) (s:SB [p] H H'):Sd K C H' bad d bk w b c g:=⟨h.dk.sb s (by simpa using dp) (by
 obtain ⟨kvs,e⟩:=hp.isD
 exact fun x hx=>.inr fun xs z=>by rw [List.mem_singleton.mp hx,e] at z; cases z),h.dr,h.tr,h.bk.pot hp s,h.ga.sb s,h.go,h.parts,h.deep,h.nm⟩
theorem Sd.lst {xs:List V} (h:Sd K C H bad d bk w b c g) (hA:H A=some (.lst xs)) (hb:A ∈ bad) (s:SB [A] H H'):Sd K C H' bad d bk w b c g:=⟨h.dk.sb s (by
 obtain ⟨us,e,_⟩:=h.dk
 exact fun z=>by rw [List.mem_singleton.mp z,hA] at e; cases e) (fun x hx=>.inl (List.mem_singleton.mp hx ▸ hb)),h.dr,h.tr,h.bk.sb s (Lsts.one hA),h.ga.sb s,h.go,h.parts,h.deep,h.nm⟩
theorem Sd.more (h:Sd K C H bad d bk w b c g) (hA:H A=none):Sd K C H (A::bad) d bk w b c g:=⟨h.dk.more hA,h.dr,h.tr,h.bk,h.ga,h.go,h.parts,h.deep,h.nm⟩
theorem Sd.nil (h:Sd K C H bad d bk w b c g):Sd K C H [] d bk w b c g:=⟨by
 obtain ⟨us,h1,h2⟩:=h.dk
 exact ⟨us,h1,h2.mono fun _ _ ⟨t,l,zs,e1,e2,e3,e4,_⟩=>⟨t,l,zs,e1,e2,e3,e4,nmn⟩⟩,h.dr,h.tr,h.bk,h.ga,h.go,h.parts,h.deep,h.nm⟩
end
theorem allE_le {α:Type} {C:Int} (hC:0<=C):∀ {bs:List (α × Int)},(∀ p ∈ bs,p.2<=C)->allE bs<=bs.length*C
 | [],_=>by simp [allE]
 | p::r,h=>by
  have h1:=h p (mcs ..)
  have h2:=allE_le hC (bs:=r) fun q hq=>h q (mcm _ hq)
  rw [allE,List.length_cons,Int.natCast_add,Int.add_mul]
  omega
section
variable {K:PySem.W.Frag} {H:Hp} {Q:VK} {σ:L2.St} {n n':Str} {m m':Int}
abbrev tPr (n:Str) (m:Int):TE:=tTup (tCons (tTup (tCons (tC (.str n)) (tCons (tTup tNil) tNil))) (tCons (tC (.int m)) tNil))
theorem bare_pr (q:∀ (x:V) (H':Hp),SB [] H H'->Dp K H' x (Gr.pEnc ((n,.nil),m))->Q x H'):tPr n m σ H Q:=by
 refine ⟨by show 0<=sizeLine; decide,fun e ne=>?_⟩
 have u1:=SB.new (ps:=[]) ne (.tup [])
 have h1:upd H e (.tup []) e=some (.tup []):=upd_same
 generalize upd H e (.tup [])=H1 at u1 h1
 refine ⟨by show 2<=sizeLine; decide,fun t nt=>?_⟩
 have u2:=SB.new (ps:=[]) nt (.tup [.str n,.ref e])
 have h2:upd H1 t (.tup [.str n,.ref e]) t=some (.tup [.str n,.ref e]):=upd_same
 generalize upd H1 t (.tup [.str n,.ref e])=H2 at u2 h2
 refine ⟨by show 2<=sizeLine; decide,fun s ns=>?_⟩
 have u3:=SB.new (ps:=[]) ns (.tup [.ref t,.int m])
 have h3:upd H2 s (.tup [.ref t,.int m]) s=some (.tup [.ref t,.int m]):=upd_same
 exact q _ _ ((u1.trans u2).trans u3) (pair_mk (enc:=Gr.tEnc) (g:=(n,.nil)) (m:=m) (SqT.of h3) (Dp.tup ((u3.sqT (SqT.of h2))) (.cons (.str _) (.cons (GA_nil ((u2.trans u3).sqT (SqT.of h1))) .nil))))
theorem bare_one (q:∀ (x:V) (H':Hp),SB [] H H'->GA K H' x (.cons n .nil m .nil)->Q x H'):tTup (tCons (tPr n m) tNil) σ H Q:=by
 show tPr n m σ H fun x H1=>([x]:List V).length<=sizeLine/\∀ p,H1 p=none->Q (.ref p) (upd H1 p (.tup [x]))
 refine bare_pr (K:=K) fun x H1 s1 hx=>⟨by show 1<=sizeLine; decide,fun r nr=>?_⟩
 have u4:=SB.new (ps:=[]) nr (.tup [x])
 exact q _ _ (s1.trans u4) (Bears_ga (K:=K) (xs:=[x]) (bs:=[((n,.nil),m)]) (SqT.of upd_same) (.cons (Dp_sb u4 _ _ (Gr.noList_pEnc _) hx) .nil))
theorem bare_two (q:∀ (x:V) (H':Hp),SB [] H H'->GA K H' x (.cons n .nil m (.cons n' .nil m' .nil))->Q x H'):tTup (tCons (tPr n m) (tCons (tPr n' m') tNil)) σ H Q:=by
 show tPr n m σ H fun x H1=>tPr n' m' σ H1 fun y H2=>([x,y]:List V).length<=sizeLine/\∀ p,H2 p=none->Q (.ref p) (upd H2 p (.tup [x,y]))
 refine bare_pr (K:=K) fun x H1 s1 hx=>?_
 refine bare_pr (K:=K) fun y H2 s2 hy=>⟨by show 2<=sizeLine; decide,fun r nr=>?_⟩
 have u4:=SB.new (ps:=[]) nr (.tup [x,y])
 exact q _ _ ((s1.trans s2).trans u4) (Bears_ga (K:=K) (xs:=[x,y]) (bs:=[((n,.nil),m),((n',.nil),m')]) (SqT.of upd_same) (.cons (Dp_sb (s2.trans u4) _ _ (Gr.noList_pEnc _) hx) (.cons (Dp_sb u4 _ _ (Gr.noList_pEnc _) hy) .nil)))
theorem held_one (q:∀ (x:V) (H':Hp),SB [] H H'->GA K H' x (.cons n (.cons n' .nil m' .nil) m .nil)->Q x H'):tTup (tCons (tTup (tCons (tTup (tCons (tC (.str n)) (tCons (tTup (tCons (tPr n' m') tNil)) tNil))) (tCons (tC (.int m)) tNil))) tNil) σ H Q:=by
 show tTup (tCons (tPr n' m') tNil) σ H fun e H1=>([V.str n,e]:List V).length<=sizeLine/\∀ t,H1 t=none->([V.ref t,V.int m]:List V).length<=sizeLine/\∀ s,upd H1 t (.tup [.str n,e]) s=none->([V.ref s]:List V).length<=sizeLine/\∀ r,upd (upd H1 t (.tup [.str n,e])) s (.tup [.ref t,.int m]) r=none->Q (.ref r) (upd (upd (upd H1 t (.tup [.str n,e])) s (.tup [.ref t,.int m])) r (.tup [.ref s]))
 refine bare_one (K:=K) fun e H1 u1 he=>?_
 refine ⟨by show 2<=sizeLine; decide,fun t nt=>?_⟩
 have u2:=SB.new (ps:=[]) nt (.tup [.str n,e])
 have h2:upd H1 t (.tup [.str n,e]) t=some (.tup [.str n,e]):=upd_same
 have he2:=he.sb u2
 generalize upd H1 t (.tup [.str n,e])=H2 at u2 h2 he2
 refine ⟨by show 2<=sizeLine; decide,fun s ns=>?_⟩
 have u3:=SB.new (ps:=[]) ns (.tup [.ref t,.int m])
 have h3:upd H2 s (.tup [.ref t,.int m]) s=some (.tup [.ref t,.int m]):=upd_same
 have hp:Dp K (upd H2 s (.tup [.ref t,.int m])) (.ref s) (Gr.pEnc ((n,.cons n' .nil m' .nil),m)):=pair_mk (enc:=Gr.tEnc) (g:=(n,.cons n' .nil m' .nil)) (m:=m) (SqT.of h3) (Dp.tup ((u3.sqT (SqT.of h2))) (.cons (.str _) (.cons (GA.sb he2 u3) .nil)))
 generalize upd H2 s (.tup [.ref t,.int m])=H3 at u3 h3 hp
 refine ⟨by show 1<=sizeLine; decide,fun r nr=>?_⟩
 have u4:=SB.new (ps:=[]) nr (.tup [.ref s])
 exact q _ _ (((u1.trans u2).trans u3).trans u4) (Bears_ga (K:=K) (xs:=[.ref s]) (bs:=[((n,.cons n' .nil m' .nil),m)]) (SqT.of upd_same) (.cons (Dp_sb u4 _ _ (Gr.noList_pEnc _) hp) .nil))
end
def ruY:Ru:=(.cons "x" .nil 2 .nil,.cons "y" .nil 1 .nil)
def ruZ:Ru:=(.nil,.cons "z" .nil 9 .nil)
def bkY:Bk:=[⟨"y",true,[ruY]⟩,⟨"x",false,[ruY]⟩]
def bkZ:Bk:=[⟨"z",true,[ruZ]⟩]
def grX:Gr:=.cons "y" (.cons "x" .nil 1 .nil) 1 .nil
def grZ:Gr:=.cons "z" .nil 1 .nil
def grA:Gr:=.cons "ab" .nil 1 (.cons "y" .nil 1 .nil)
def grB:Gr:=.cons "aa" .nil 1 (.cons "z" .nil 1 .nil)
theorem nameOk_x:NameOk "x":=by unfold NameOk; decide +kernel
theorem nameOk_y:NameOk "y":=by unfold NameOk; decide +kernel
theorem nameOk_z:NameOk "z":=by unfold NameOk; decide +kernel
theorem bkY_ok:bkY.Ok:=by
 have r:RuOk ruY/\∀ p ∈ Ru.within ruY,p.1.1 ∈ bkY.names:=by
  refine ⟨⟨ok_one nameOk_x (by decide) (by decide),ok_one nameOk_y (by decide) (by decide),by decide⟩,fun p hp=>?_⟩
  have hp:p ∈ [((("x":Str),Gr.nil),(2:Int)),(("y",Gr.nil),(1:Int))]:=hp
  simp only [List.mem_cons,nmn,or_false] at hp
  rcases hp with rfl | rfl
  ·exact .tail _ (.head _)
  ·exact .head _
 refine ⟨by decide,by decide,by decide +kernel,fun k hk=>?_⟩
 simp only [bkY,List.mem_cons,nmn,or_false] at hk
 rcases hk with rfl | rfl
 ·exact ⟨nameOk_y,by decide,fun r' hr=>by rw [List.mem_singleton.mp hr]; exact r⟩
 ·exact ⟨nameOk_x,by decide,fun r' hr=>by rw [List.mem_singleton.mp hr]; exact r⟩
theorem bkZ_ok:bkZ.Ok:=by
 refine ⟨by decide,by decide,by decide +kernel,fun k hk=>?_⟩
 rw [List.mem_singleton.mp hk]
 refine ⟨nameOk_z,by decide,fun r' hr=>?_⟩
 rw [List.mem_singleton.mp hr]
 refine ⟨⟨trivial,ok_one nameOk_z (by decide) (by decide),by decide⟩,fun p hp=>?_⟩
 have hp:p ∈ [((("z":Str),Gr.nil),(9:Int))]:=hp
 rw [List.mem_singleton.mp hp]
 exact .head _
theorem noEnd_x:¬ EndK bkY "x":=fun h=>h.noring (.one (by decide +kernel))
theorem noEnd_z:¬ EndK bkZ "z":=fun h=>h.noring (.one (by decide +kernel))
theorem named_X:Gr.Named bkY.names grX:=fun x hx=>by
 have hx:x ∈ [((("y":Str),Gr.cons "x" .nil 1 .nil),(1:Int)),(("x",Gr.nil),(1:Int))]:=hx
 simp only [List.mem_cons,nmn,or_false] at hx
 rcases hx with rfl | rfl
 ·exact .head _
 ·exact .tail _ (.head _)
theorem named_Z:Gr.Named bkZ.names grZ:=fun x hx=>by
 have hx:x ∈ [((("z":Str),Gr.nil),(1:Int))]:=hx
 rw [List.mem_singleton.mp hx]; exact .head _
theorem least_x:LeastOut (fun m=>¬ EndK bkY m) grX "x":=⟨.tail _ (.head _),noEnd_x,fun m hm _=>by
 have hm:m ∈ [("y":Str),"x"]:=hm
 simp only [List.mem_cons,nmn,or_false] at hm
 rcases hm with rfl | rfl <;> decide +kernel⟩
theorem least_z:LeastOut (fun m=>¬ EndK bkZ m) grZ "z":=⟨.head _,noEnd_z,fun m hm _=>by
 have hm:m ∈ [("z":Str)]:=hm
 rw [List.mem_singleton.mp hm]; decide +kernel⟩
theorem least_ab:LeastOut (fun m=>m ∉ bkY.names) grA "ab":=⟨.head _,by decide +kernel,fun m hm _=>by
 have hm:m ∈ [("ab":Str),"y"]:=hm
 simp only [List.mem_cons,nmn,or_false] at hm
 rcases hm with rfl | rfl <;> decide +kernel⟩
theorem least_aa:LeastOut (fun m=>m ∉ bkZ.names) grB "aa":=⟨.head _,by decide +kernel,fun m hm _=>by
 have hm:m ∈ [("aa":Str),"z"]:=hm
 simp only [List.mem_cons,nmn,or_false] at hm
 rcases hm with rfl | rfl <;> decide +kernel⟩
theorem namedA:Gr.Named ["ab","y"] grA:=fun x hx=>by
 have hx:x ∈ [((("ab":Str),Gr.nil),(1:Int)),(("y",Gr.nil),(1:Int))]:=hx
 simp only [List.mem_cons,nmn,or_false] at hx
 rcases hx with rfl | rfl
 ·exact .head _
 ·exact .tail _ (.head _)
theorem namedB:Gr.Named ["aa","z"] grB:=fun x hx=>by
 have hx:x ∈ [((("aa":Str),Gr.nil),(1:Int)),(("z",Gr.nil),(1:Int))]:=hx
 simp only [List.mem_cons,nmn,or_false] at hx
 rcases hx with rfl | rfl
 ·exact .head _
 ·exact .tail _ (.head _)
section
variable {K:PySem.W.Frag} {C:Addr} {H:Hp} {d bk:Addr} {w:V} {b c:Bk} {g:Gr}
theorem Sd.hnd (h:Sd K C H [] d bk w b c g):Hnd K C H (.ref bk) w c g c.names:=by
 obtain ⟨_,_,lv,M⟩:=h.dr.made (by decide) h.tr
 have:=M.ok.len
 exact ⟨h.bk,M.ok,h.ga,by have:=h.deep; omega,by have:=h.parts; omega,h.nm,by rw [List.length_map]; omega⟩
theorem Sd.rk (h:Sd K C H [] d bk w b c g):(∀ x ∈ g.within,EndK c x.1.1)/\RkIn c (ownOf c) g:=by
 obtain ⟨_,_,lv,M⟩:=h.dr.made (by decide) h.tr
 have:=h.deep
 have:=h.parts
 have GR:=M.grv (h.go.mono (by decide)) h.nm (by omega) (by omega)
 exact ⟨fun x hx=>M.ends _ (h.nm x hx),M.own,by omega,by omega,GR.fitW,by have:=GR.deep; omega⟩
end
theorem make_core2 {K:PySem.W.Frag} {C B:Addr} {b:Bk} {H:Hp} {l:Addr} {xs:List V} {bad:List Addr} {Qf:Addr->VK} {E:XK} (hl:H l=some (.lst xs)) (ha:KdAll K H bad xs b) (ok:b.Ok) (k:∀ y H',SB [] H H'->H y=none->BkA K C H' (.ref y) b->Qf y .non H') :
  ∀ y dx,H y=none->H dx=none->dx ≠ y->spBInit K C B (.ref y::[.ref l]) (upd (upd H dx (.own y)) y (.ins C dx [])) (Qf y) E:=by
 intro y dx hy hdx hne
 have b8:=ok.len
 have hy':upd H dx (.own y) y=none:=by rw [upd_ne (fun z=>hne z.symm)]; exact hy
 have t4:=(SB.new (ps:=[]) hdx (.own y)).trans (SB.new hy' (.ins C dx []))
 have hdx4:upd (upd H dx (.own y)) y (.ins C dx []) dx=some (.own y):=by rw [upd_ne hne,upd_same]
 have hx4:upd (upd H dx (.own y)) y (.ins C dx []) y=some (.ins C dx []):=upd_same
 refine ⟨y,dx,l,xs,b.map Kd.kt,rfl,hx4,hdx4,t4.keep _ _ hl nmn,(ha.sb t4 NoLst.nil).kt ok.three,fun t ht=>?_,by rw [List.length_map]; omega,fun b' e ok' H5 s5 hbk=>?_,fun z=>absurd ⟨b,rfl,ok⟩ z⟩
 ·obtain ⟨k,hk,rfl⟩:=List.mem_map.mp ht
  exact KTFit_of (ok.two k hk)
 ·have e:=kts_inj e
  subst e
  exact k y H5 (((t4.nil (ps:=[y])).trans s5).drop hy) hy hbk
theorem rule_two {K:PySem.W.Frag} {H:Hp} {Q:VK} {σ:L2.St} {n n':Str} {m m':Int} (q:∀ (T:Addr) (H':Hp),SB [] H H'->Dp K H' (.ref T) (Ru.enc (.cons n .nil m .nil,.cons n' .nil m' .nil))->Q (.ref T) H'):tTup (tCons (tTup (tCons (tPr n m) tNil)) (tCons (tTup (tCons (tPr n' m') tNil)) tNil)) σ H Q:=by
 show tTup (tCons (tPr n m) tNil) σ H fun x H1=>tTup (tCons (tPr n' m') tNil) σ H1 fun y H2=>([x,y]:List V).length<=sizeLine/\∀ p,H2 p=none->Q (.ref p) (upd H2 p (.tup [x,y]))
 refine bare_one (K:=K) fun v1 H1 s1 h1=>?_
 refine bare_one (K:=K) fun v2 H2 s2 h2=>?_
 refine ⟨by show 2<=sizeLine; decide,fun T nT=>?_⟩
 have t4:=SB.new (ps:=[]) nT (.tup [v1,v2])
 exact q _ _ ((s1.trans s2).trans t4) (.tup (SqT.of upd_same) (.cons (GA.sb (h1.sb s2) t4) (.cons (GA.sb h2 t4) .nil)))
theorem Sd.lawrank {K:PySem.W.Frag} {C:Addr} {H:Hp} {d bk e:Addr} {w u:V} {b c:Bk} {g h:Gr} {Q:VK} {E:XK} (hS:Sd K C H [] d bk w b c g) (ne:H e=none) (hu:GA K H u h) (ho:h.Ok (2 ^ 119)) (hp:h.parts<=8) (hd:h.deep<=8) (hn:Gr.Named c.names h) (q:∀ (x:V) (H':Hp),SB [] H H'->LA K H' x (Gr.rk c (ownOf c) h)->Q x H'):spRkR K 177 [.ref d,.ref e,u] (upd H e (.dK [])) Q E:=by
 obtain ⟨same,_,lv,M⟩:=hS.dr.made (by decide) hS.tr
 have GR:=M.grv ho hn (by omega) (by omega)
 have t6:=SB.new (ps:=[]) ne (.dK [])
 have he6:upd H e (.dK []) e=some (.dK []):=upd_same
 have de6:d ≠ e:=fun z=>by
  obtain ⟨us,h,_⟩:=hS.dk
  rw [z,ne] at h; cases h
 have hdk6:=hS.dk.dk.sb t6 nmn NoL.nil
 have hu6:=hu.sb t6
 generalize upd H e (.dK [])=H6 at t6 he6 hdk6 hu6
 have M6:Memo K H6 e (ownOf c) c.names []:=⟨⟨[],he6,.nil⟩,List.nodup_nil,fun _ h=>nomatch h⟩
 refine ⟨d,e,u,c,ownOf c,c.names,[],lv,h,_,8,rfl,hdk6.l same,de6,M.law,M6,⟨hu6,ho,GR.fitL,by omega,by omega⟩,fun x hx=>M.law.low _ (hn x hx),by omega,fun wv H7 ms7 s7 M7 _ hw7=>q wv H7 (((t6.nil (ps:=[e])).trans s7).drop ne) hw7⟩
theorem Sd.rkd {K:PySem.W.Frag} {C:Addr} {H:Hp} {d bk:Addr} {w:V} {b c:Bk} {g h:Gr} (hS:Sd K C H [] d bk w b c g) (ho:h.Ok (2 ^ 119)) (hp:h.parts<=8) (hd:h.deep<=8) (hn:Gr.Named c.names h):(∀ x ∈ h.within,EndK c x.1.1)/\RkIn c (ownOf c) h/\(Gr.rk c (ownOf c) h).deep<=26:=by
 obtain ⟨_,_,lv,M⟩:=hS.dr.made (by decide) hS.tr
 have GR:=M.grv ho hn (by omega) (by omega)
 exact ⟨fun x hx=>M.ends _ (hn x hx),⟨M.own,by omega,by omega,GR.fitW,by have:=GR.deep; omega⟩,GR.deep⟩
theorem one_more {g:Gr} {kn:Str} {ns:List Str} (go:g.Ok (2 ^ 100)) (gp:g.parts<=7) (gd:g.deep<=7) (hk:NameOk kn) (hn:Gr.Named ns g) (hm:kn ∈ ns) :
  (g.ps++[((kn,Gr.nil),(1:Int))]).length<=1000/\(∀ p ∈ g.ps++[((kn,Gr.nil),(1:Int))],NameOk p.1.1/\p.1.2.Ok (2 ^ 100)/\p.1.2.deep<=18)/\(Gr.tidy (g.ps++[((kn,Gr.nil),(1:Int))])).deep<=8/\(Gr.tidy (g.ps++[((kn,Gr.nil),(1:Int))])).parts<=8/\Gr.Named ns (Gr.tidy (g.ps++[((kn,Gr.nil),(1:Int))]))/\(Gr.tidy (g.ps++[((kn,Gr.nil),(1:Int))])).Ok (2 ^ 119):=by
 have glp:=g.len_parts
 have okE:∀ p ∈ g.ps++[((kn,Gr.nil),(1:Int))],NameOk p.1.1/\p.1.2.Ok (2 ^ 100)/\1<=p.2:=fun p hp=>by
  rcases List.mem_append.mp hp with e | e
  ·obtain ⟨a1,a2,a3,_⟩:=(Gr.ok_iff.mp go).1 p e
   exact ⟨a1,a2,a3⟩
  ·rw [List.mem_singleton.mp e]
   exact ⟨hk,trivial,Int.le_refl _⟩
 have numE:∀ p ∈ g.ps++[((kn,Gr.nil),(1:Int))],p.2<=2 ^ 100:=fun p hp=>by
  rcases List.mem_append.mp hp with e | e
  ·obtain ⟨_,_,_,a4⟩:=(Gr.ok_iff.mp go).1 p e
   exact Int.le_of_lt a4
  ·rw [List.mem_singleton.mp e]; show (1:Int)<=2 ^ 100; decide
 have dpE:∀ p ∈ g.ps++[((kn,Gr.nil),(1:Int))],p.1.2.deep<=7:=fun p hp=>by
  rcases List.mem_append.mp hp with e | e
  ·have:=g.mem_deep p e; omega
  ·rw [List.mem_singleton.mp e]; exact Nat.zero_le _
 have knE:∀ p ∈ g.ps++[((kn,Gr.nil),(1:Int))],p.1.1 ∈ ns/\Gr.Named ns p.1.2:=fun p hp=>by
  rcases List.mem_append.mp hp with e | e
  ·exact Gr.named_iff.mp hn p e
  ·rw [List.mem_singleton.mp e]
   exact ⟨hm,fun x hx=>nomatch hx⟩
 have bel:(g.ps++[((kn,Gr.nil),(1:Int))]).length=g.ps.length+1:=by rw [List.length_append]; rfl
 refine ⟨by omega,fun p hp=>⟨(okE p hp).1,(okE p hp).2.1,by have:=dpE p hp; omega⟩,Gr.tidy_deep fun p hp=>by have:=dpE p hp; omega,Nat.le_trans (Gr.tidy_parts _) (by rw [Gr.tot_append,Gr.tot_ps]; show g.parts+(1+0+0)<=8; omega),Gr.tidy_namedL knE,Gr.tidy_ok okE (by
  have h1:=allE_le (C:=2 ^ 100) (by decide) numE
  have h2:((g.ps++[((kn,Gr.nil),(1:Int))]).length:Int)*2 ^ 100<=10*2 ^ 100:=Int.mul_le_mul_of_nonneg_right (by omega) (by decide)
  have h3:(10:Int)*2 ^ 100 < 2 ^ 119:=by decide
  omega) (by decide)⟩
theorem nameZ {i:Nat} {v:V} {σ:L2.St} {H:Hp} {Q:L2.St->Hp->Prop} (h:Q (σ.set i (some v)) H):gName i v σ H Q:=h
def top (i:Nat):Stmt:=PySem.Challenge.pw_felltimber_k57_who_outlasts.main.body.getD i (.Pass ⟨0,0,0,0⟩)
abbrev s__wall:Stmt:=top 0
abbrev s_is_whole:Stmt:=top 4
abbrev s_is_many:Stmt:=top 5
abbrev s_is_name:Stmt:=top 6
abbrev s_is_rising:Stmt:=top 7
abbrev s_joined:Stmt:=top 8
abbrev s_many_at:Stmt:=top 9
abbrev s_run_of:Stmt:=top 10
abbrev s_is_tree:Stmt:=top 18
abbrev s_is_grove:Stmt:=top 19
abbrev s_are_grove_pairs:Stmt:=top 20
abbrev s_pairs_within:Stmt:=top 21
abbrev s_kinds_within:Stmt:=top 22
abbrev s_rules_from_nought:Stmt:=top 30
abbrev s_check_kind:Stmt:=top 31
abbrev s_check_kinds:Stmt:=top 32
abbrev s_are_kinds:Stmt:=top 33
abbrev s_is_kind:Stmt:=top 34
abbrev s_is_rule:Stmt:=top 35
abbrev s_is_rule_of:Stmt:=top 36
abbrev s_tree_at:Stmt:=top 38
abbrev s_all_places:Stmt:=top 39
abbrev s_steps_of:Stmt:=top 41
abbrev s_steps_in:Stmt:=top 42
abbrev s_leads:Stmt:=top 43
abbrev s_ending_kinds:Stmt:=top 44
abbrev s_lead_into:Stmt:=top 45
abbrev s_endless_kinds:Stmt:=top 46
abbrev s_check_ends:Stmt:=top 47
abbrev s_number:Stmt:=top 49
abbrev s_is_less:Stmt:=top 50
abbrev s_behind:Stmt:=top 52
abbrev s_both:Stmt:=top 53
abbrev s_all_together:Stmt:=top 54
abbrev s_many_of:Stmt:=top 55
abbrev s_power:Stmt:=top 57
abbrev s_above:Stmt:=top 58
abbrev s_spread:Stmt:=top 59
abbrev s_rank:Stmt:=top 61
abbrev s_own_ranks:Stmt:=top 62
abbrev s_climb:Stmt:=top 63
abbrev s_reckoned:Stmt:=top 64
abbrev s_reckoned_tree:Stmt:=top 65
abbrev s_laden:Stmt:=top 66
abbrev s_outlasts:Stmt:=top 68
abbrev s_check_hands:Stmt:=top 69
abbrev s__law_pot:Stmt:=top 72
abbrev s__law_take:Stmt:=top 73
abbrev s__law_less:Stmt:=top 74
abbrev s__law_behind:Stmt:=top 75
abbrev s__law_both:Stmt:=top 76
abbrev s__law_above:Stmt:=top 77
abbrev s__law_own:Stmt:=top 78
abbrev s__law_rank:Stmt:=top 79
abbrev s__law_grove_of:Stmt:=top 80
abbrev s__law_names:Stmt:=top 81
abbrev s__law_drawn_grove:Stmt:=top 82
abbrev s__law_drawn_book:Stmt:=top 83
abbrev s__law_kinds:Stmt:=top 84
abbrev s__law_two:Stmt:=top 85
abbrev s__law_refusal:Stmt:=top 86
abbrev s__law_refused:Stmt:=top 87
abbrev s_law:Stmt:=top 88
abbrev s_NoKind___init__:Stmt:=inClass (top 15) 0
abbrev s_Endless___init__:Stmt:=inClass (top 16) 0
abbrev s_Book___init__:Stmt:=inClass (top 29) 0
abbrev s_Book_names:Stmt:=inClass (top 29) 1
abbrev s_Book_spreads:Stmt:=inClass (top 29) 2
abbrev s_Book_rules:Stmt:=inClass (top 29) 3
abbrev s_Duel___init__:Stmt:=inClass (top 70) 0
abbrev s_Duel_turn:Stmt:=inClass (top 70) 1
abbrev s_Duel_groves:Stmt:=inClass (top 70) 2
abbrev s_Duel_fall:Stmt:=inClass (top 70) 3
abbrev s_Duel_answer:Stmt:=inClass (top 70) 4
abbrev s_Duel_outlasted:Stmt:=inClass (top 70) 5
abbrev eC:List Str:=["NoKind","Endless"]
abbrev eN:List Str:=["NoPlace","NoBook","NoKind","Endless"]
abbrev eK:List Str:=["NoKind","Endless"]
def d__wall:He.DefD:=⟨("_wall",none),"_wall","_wall",defArgs s__wall,defBody s__wall,defScope s__wall,[],[]⟩
def d_is_whole:He.DefD:=⟨("is_whole",none),"is_whole","is_whole",defArgs s_is_whole,defBody s_is_whole,defScope s_is_whole,[],[]⟩
def d_is_many:He.DefD:=⟨("is_many",none),"is_many","is_many",defArgs s_is_many,defBody s_is_many,defScope s_is_many,[],[]⟩
def d_is_name:He.DefD:=⟨("is_name",none),"is_name","is_name",defArgs s_is_name,defBody s_is_name,defScope s_is_name,[],[]⟩
def d_is_rising:He.DefD:=⟨("is_rising",none),"is_rising","is_rising",defArgs s_is_rising,defBody s_is_rising,defScope s_is_rising,[],[]⟩
def d_joined:He.DefD:=⟨("joined",none),"joined","joined",defArgs s_joined,defBody s_joined,defScope s_joined,[],[]⟩
def d_many_at:He.DefD:=⟨("many_at",none),"many_at","many_at",defArgs s_many_at,defBody s_many_at,defScope s_many_at,[],[]⟩
def d_run_of:He.DefD:=⟨("run_of",none),"run_of","run_of",defArgs s_run_of,defBody s_run_of,defScope s_run_of,[],[]⟩
def d_is_tree:He.DefD:=⟨("is_tree",none),"is_tree","is_tree",defArgs s_is_tree,defBody s_is_tree,defScope s_is_tree,[],[]⟩
def d_is_grove:He.DefD:=⟨("is_grove",none),"is_grove","is_grove",defArgs s_is_grove,defBody s_is_grove,defScope s_is_grove,[],[]⟩
def d_are_grove_pairs:He.DefD:=⟨("are_grove_pairs",none),"are_grove_pairs","are_grove_pairs",defArgs s_are_grove_pairs,defBody s_are_grove_pairs,defScope s_are_grove_pairs,[],[]⟩
def d_pairs_within:He.DefD:=⟨("pairs_within",none),"pairs_within","pairs_within",defArgs s_pairs_within,defBody s_pairs_within,defScope s_pairs_within,[],[]⟩
def d_kinds_within:He.DefD:=⟨("kinds_within",none),"kinds_within","kinds_within",defArgs s_kinds_within,defBody s_kinds_within,defScope s_kinds_within,[],[]⟩
def d_rules_from_nought:He.DefD:=⟨("rules_from_nought",none),"rules_from_nought","rules_from_nought",defArgs s_rules_from_nought,defBody s_rules_from_nought,defScope s_rules_from_nought,[],[]⟩
def d_check_kind:He.DefD:=⟨("check_kind",none),"check_kind","check_kind",defArgs s_check_kind,defBody s_check_kind,defScope s_check_kind,[],[]⟩
def d_check_kinds:He.DefD:=⟨("check_kinds",none),"check_kinds","check_kinds",defArgs s_check_kinds,defBody s_check_kinds,defScope s_check_kinds,[],[]⟩
def d_are_kinds:He.DefD:=⟨("are_kinds",none),"are_kinds","are_kinds",defArgs s_are_kinds,defBody s_are_kinds,defScope s_are_kinds,[],[]⟩
def d_is_kind:He.DefD:=⟨("is_kind",none),"is_kind","is_kind",defArgs s_is_kind,defBody s_is_kind,defScope s_is_kind,[],[]⟩
def d_is_rule:He.DefD:=⟨("is_rule",none),"is_rule","is_rule",defArgs s_is_rule,defBody s_is_rule,defScope s_is_rule,[],[]⟩
def d_is_rule_of:He.DefD:=⟨("is_rule_of",none),"is_rule_of","is_rule_of",defArgs s_is_rule_of,defBody s_is_rule_of,defScope s_is_rule_of,[],[]⟩
def d_tree_at:He.DefD:=⟨("tree_at",none),"tree_at","tree_at",defArgs s_tree_at,defBody s_tree_at,defScope s_tree_at,[],[]⟩
def d_all_places:He.DefD:=⟨("all_places",none),"all_places","all_places",defArgs s_all_places,defBody s_all_places,defScope s_all_places,[],[]⟩
def d_steps_of:He.DefD:=⟨("steps_of",none),"steps_of","steps_of",defArgs s_steps_of,defBody s_steps_of,defScope s_steps_of,[],[]⟩
def d_steps_in:He.DefD:=⟨("steps_in",none),"steps_in","steps_in",defArgs s_steps_in,defBody s_steps_in,defScope s_steps_in,[],[]⟩
def d_leads:He.DefD:=⟨("leads",none),"leads","leads",defArgs s_leads,defBody s_leads,defScope s_leads,[],[]⟩
def d_ending_kinds:He.DefD:=⟨("ending_kinds",none),"ending_kinds","ending_kinds",defArgs s_ending_kinds,defBody s_ending_kinds,defScope s_ending_kinds,[],[]⟩
def d_lead_into:He.DefD:=⟨("lead_into",none),"lead_into","lead_into",defArgs s_lead_into,defBody s_lead_into,defScope s_lead_into,[],[]⟩
def d_endless_kinds:He.DefD:=⟨("endless_kinds",none),"endless_kinds","endless_kinds",defArgs s_endless_kinds,defBody s_endless_kinds,defScope s_endless_kinds,[],[]⟩
def d_check_ends:He.DefD:=⟨("check_ends",none),"check_ends","check_ends",defArgs s_check_ends,defBody s_check_ends,defScope s_check_ends,[],[]⟩
def d_number:He.DefD:=⟨("number",none),"number","number",defArgs s_number,defBody s_number,defScope s_number,[],[]⟩
def d_is_less:He.DefD:=⟨("is_less",none),"is_less","is_less",defArgs s_is_less,defBody s_is_less,defScope s_is_less,[],[]⟩
def d_behind:He.DefD:=⟨("behind",none),"behind","behind",defArgs s_behind,defBody s_behind,defScope s_behind,[],[]⟩
def d_both:He.DefD:=⟨("both",none),"both","both",defArgs s_both,defBody s_both,defScope s_both,[],[]⟩
def d_all_together:He.DefD:=⟨("all_together",none),"all_together","all_together",defArgs s_all_together,defBody s_all_together,defScope s_all_together,[],[]⟩
def d_many_of:He.DefD:=⟨("many_of",none),"many_of","many_of",defArgs s_many_of,defBody s_many_of,defScope s_many_of,[],[]⟩
def d_power:He.DefD:=⟨("power",none),"power","power",defArgs s_power,defBody s_power,defScope s_power,[],[]⟩
def d_above:He.DefD:=⟨("above",none),"above","above",defArgs s_above,defBody s_above,defScope s_above,[],[]⟩
def d_spread:He.DefD:=⟨("spread",none),"spread","spread",defArgs s_spread,defBody s_spread,defScope s_spread,[],[]⟩
def d_rank:He.DefD:=⟨("rank",none),"rank","rank",defArgs s_rank,defBody s_rank,defScope s_rank,[],[]⟩
def d_own_ranks:He.DefD:=⟨("own_ranks",none),"own_ranks","own_ranks",defArgs s_own_ranks,defBody s_own_ranks,defScope s_own_ranks,[],[]⟩
def d_climb:He.DefD:=⟨("climb",none),"climb","climb",defArgs s_climb,defBody s_climb,defScope s_climb,[],[]⟩
def d_reckoned:He.DefD:=⟨("reckoned",none),"reckoned","reckoned",defArgs s_reckoned,defBody s_reckoned,defScope s_reckoned,[],[]⟩
def d_reckoned_tree:He.DefD:=⟨("reckoned_tree",none),"reckoned_tree","reckoned_tree",defArgs s_reckoned_tree,defBody s_reckoned_tree,defScope s_reckoned_tree,[],[]⟩
def d_laden:He.DefD:=⟨("laden",none),"laden","laden",defArgs s_laden,defBody s_laden,defScope s_laden,[],[]⟩
def d_outlasts:He.DefD:=⟨("outlasts",none),"outlasts","outlasts",defArgs s_outlasts,defBody s_outlasts,defScope s_outlasts,[],[]⟩
def d_check_hands:He.DefD:=⟨("check_hands",none),"check_hands","check_hands",defArgs s_check_hands,defBody s_check_hands,defScope s_check_hands,[],[]⟩
def d__law_pot:He.DefD:=⟨("_law_pot",none),"_law_pot","_law_pot",defArgs s__law_pot,defBody s__law_pot,defScope s__law_pot,[],[]⟩
def d__law_take:He.DefD:=⟨("_law_take",none),"_law_take","_law_take",defArgs s__law_take,defBody s__law_take,defScope s__law_take,[],[]⟩
def d__law_less:He.DefD:=⟨("_law_less",none),"_law_less","_law_less",defArgs s__law_less,defBody s__law_less,defScope s__law_less,[],[]⟩
def d__law_behind:He.DefD:=⟨("_law_behind",none),"_law_behind","_law_behind",defArgs s__law_behind,defBody s__law_behind,defScope s__law_behind,[],[]⟩
def d__law_both:He.DefD:=⟨("_law_both",none),"_law_both","_law_both",defArgs s__law_both,defBody s__law_both,defScope s__law_both,[],[]⟩
def d__law_above:He.DefD:=⟨("_law_above",none),"_law_above","_law_above",defArgs s__law_above,defBody s__law_above,defScope s__law_above,[],[]⟩
def d__law_own:He.DefD:=⟨("_law_own",none),"_law_own","_law_own",defArgs s__law_own,defBody s__law_own,defScope s__law_own,[],[]⟩
def d__law_rank:He.DefD:=⟨("_law_rank",none),"_law_rank","_law_rank",defArgs s__law_rank,defBody s__law_rank,defScope s__law_rank,[],[]⟩
def d__law_grove_of:He.DefD:=⟨("_law_grove_of",none),"_law_grove_of","_law_grove_of",defArgs s__law_grove_of,defBody s__law_grove_of,defScope s__law_grove_of,[],[]⟩
def d__law_names:He.DefD:=⟨("_law_names",none),"_law_names","_law_names",defArgs s__law_names,defBody s__law_names,defScope s__law_names,[],[]⟩
def d__law_drawn_grove:He.DefD:=⟨("_law_drawn_grove",none),"_law_drawn_grove","_law_drawn_grove",defArgs s__law_drawn_grove,defBody s__law_drawn_grove,defScope s__law_drawn_grove,[],[]⟩
def d__law_drawn_book:He.DefD:=⟨("_law_drawn_book",none),"_law_drawn_book","_law_drawn_book",defArgs s__law_drawn_book,defBody s__law_drawn_book,defScope s__law_drawn_book,[],[]⟩
def d__law_kinds:He.DefD:=⟨("_law_kinds",none),"_law_kinds","_law_kinds",defArgs s__law_kinds,defBody s__law_kinds,defScope s__law_kinds,[],[]⟩
def d__law_two:He.DefD:=⟨("_law_two",none),"_law_two","_law_two",defArgs s__law_two,defBody s__law_two,defScope s__law_two,[],[]⟩
def d__law_refusal:He.DefD:=⟨("_law_refusal",none),"_law_refusal","_law_refusal",defArgs s__law_refusal,defBody s__law_refusal,defScope s__law_refusal,[],[]⟩
def d__law_refused:He.DefD:=⟨("_law_refused",none),"_law_refused","_law_refused",defArgs s__law_refused,defBody s__law_refused,defScope s__law_refused,[],[]⟩
def d_law:He.DefD:=⟨("law",none),"law","law",defArgs s_law,defBody s_law,defScope s_law,[],[]⟩
def d_NoKind___init__:He.DefD:=⟨("NoKind",some "__init__"),"__init__","NoKind.__init__",defArgs s_NoKind___init__,defBody s_NoKind___init__,defScope s_NoKind___init__,[],[]⟩
def d_Endless___init__:He.DefD:=⟨("Endless",some "__init__"),"__init__","Endless.__init__",defArgs s_Endless___init__,defBody s_Endless___init__,defScope s_Endless___init__,[],[]⟩
def d_Book___init__:He.DefD:=⟨("Book",some "__init__"),"__init__","Book.__init__",defArgs s_Book___init__,defBody s_Book___init__,defScope s_Book___init__,[],[]⟩
def d_Book_names:He.DefD:=⟨("Book",some "names"),"names","Book.names",defArgs s_Book_names,defBody s_Book_names,defScope s_Book_names,[],[]⟩
def d_Book_spreads:He.DefD:=⟨("Book",some "spreads"),"spreads","Book.spreads",defArgs s_Book_spreads,defBody s_Book_spreads,defScope s_Book_spreads,[],[]⟩
def d_Book_rules:He.DefD:=⟨("Book",some "rules"),"rules","Book.rules",defArgs s_Book_rules,defBody s_Book_rules,defScope s_Book_rules,[],[]⟩
def d_Duel___init__:He.DefD:=⟨("Duel",some "__init__"),"__init__","Duel.__init__",defArgs s_Duel___init__,defBody s_Duel___init__,defScope s_Duel___init__,[],[]⟩
def d_Duel_turn:He.DefD:=⟨("Duel",some "turn"),"turn","Duel.turn",defArgs s_Duel_turn,defBody s_Duel_turn,defScope s_Duel_turn,[],[]⟩
def d_Duel_groves:He.DefD:=⟨("Duel",some "groves"),"groves","Duel.groves",defArgs s_Duel_groves,defBody s_Duel_groves,defScope s_Duel_groves,[],[]⟩
def d_Duel_fall:He.DefD:=⟨("Duel",some "fall"),"fall","Duel.fall",defArgs s_Duel_fall,defBody s_Duel_fall,defScope s_Duel_fall,[],[]⟩
def d_Duel_answer:He.DefD:=⟨("Duel",some "answer"),"answer","Duel.answer",defArgs s_Duel_answer,defBody s_Duel_answer,defScope s_Duel_answer,[],[]⟩
def d_Duel_outlasted:He.DefD:=⟨("Duel",some "outlasted"),"outlasted","Duel.outlasted",defArgs s_Duel_outlasted,defBody s_Duel_outlasted,defScope s_Duel_outlasted,[],[]⟩
def fn:List He.DefD:=[d__wall,d_is_whole,d_is_many,d_is_name,d_is_rising,d_joined,d_many_at,d_run_of,d_is_tree,d_is_grove,d_are_grove_pairs,d_pairs_within,d_kinds_within,d_rules_from_nought,d_check_kind,d_check_kinds,d_are_kinds,d_is_kind,d_is_rule,d_is_rule_of,d_tree_at,d_all_places,d_steps_of,d_steps_in,d_leads,d_ending_kinds,d_lead_into,d_endless_kinds,d_check_ends,d_number,d_is_less,d_behind,d_both,d_all_together,d_many_of,d_power,d_above,d_spread,d_rank,d_own_ranks,d_climb,d_reckoned,d_reckoned_tree,d_laden,d_outlasts,d_check_hands,d__law_pot,d__law_take,d__law_less,d__law_behind,d__law_both,d__law_above,d__law_own,d__law_rank,d__law_grove_of,d__law_names,d__law_drawn_grove,d__law_drawn_book,d__law_kinds,d__law_two,d__law_refusal,d__law_refused,d_law,d_NoKind___init__,d_Endless___init__,d_Book___init__,d_Book_names,d_Book_spreads,d_Book_rules,d_Duel___init__,d_Duel_turn,d_Duel_groves,d_Duel_fall,d_Duel_answer,d_Duel_outlasted]
def fa1:List He.Fa:=[.glo "_wall",.glo "is_whole",.glo "is_many",.glo "is_name",.glo "is_rising",.glo "joined",.glo "many_at",.glo "run_of",.glo "is_tree",.glo "is_grove",.glo "are_grove_pairs",.glo "pairs_within",.glo "kinds_within",.glo "rules_from_nought",.glo "check_kind",.glo "check_kinds",.glo "are_kinds",.glo "is_kind",.glo "is_rule",.glo "is_rule_of",.glo "tree_at",.glo "all_places",.glo "steps_of",.glo "steps_in",.glo "leads",.glo "ending_kinds",.glo "lead_into",.glo "endless_kinds",.glo "check_ends",.glo "number",.glo "is_less",.glo "behind",.glo "both",.glo "all_together",.glo "many_of",.glo "power",.glo "above",.glo "spread",.glo "rank",.glo "own_ranks",.glo "climb",.glo "reckoned",.glo "reckoned_tree",.glo "laden",.glo "outlasts",.glo "check_hands",.glo "_law_pot",.glo "_law_take",.glo "_law_less",.glo "_law_behind",.glo "_law_both",.glo "_law_above",.glo "_law_own",.glo "_law_rank",.glo "_law_grove_of",.glo "_law_names",.glo "_law_drawn_grove",.glo "_law_drawn_book",.glo "_law_kinds",.glo "_law_two",.glo "_law_refusal"]
def fa2:List He.Fa:=[.glo "_law_refused",.glo "law",.free "len",.free "isinstance",.free "int",.free "bool",.free "str",.free "tuple",.free "list",.free "all",.free "zip",.free "sum",.free "max",.free "range",.free "enumerate",.free "abs",.free "sorted",.free "min",.free "reversed",.free "any",.free "set",.free "dict",.free "repr",.glo "FellError",.free "ValueError",.glo "NoPlace",.glo "NoBook",.glo "NoKind",.glo "Endless",.noat "NoKind" "kind",.noat "Endless" "kind",.str "LETTERS" "abcdefghijklmnopqrstuvwxyz",.int "LONGEST_NAME" (8),.int "MOST_KINDS" (8),.int "MOST_RULES" (4),.int "MOST_RULE_PARTS" (4),.int "MOST_MANY" (1000000000),.glo "NO_GROVES",.exc "NoBook",.exc "NoPlace",.meth "NoKind" "__init__",.meth "Endless" "__init__",.glo "Book",.cls "Book",.noat "Book" "spread_by_name",.noat "Book" "rows_by_name",.mkr "Book",.meth "Book" "names",.meth "Book" "spreads",.meth "Book" "rules",.glo "Duel",.cls "Duel",.noat "Duel" "books",.noat "Duel" "standing",.noat "Duel" "hand",.mkr "Duel",.meth "Duel" "turn",.meth "Duel" "groves",.meth "Duel" "fall",.meth "Duel" "answer",.meth "Duel" "outlasted"]
def fa:List He.Fa:=fa1++fa2
def exOk (K:PySem.W.Frag):Bool:=oexCB K (He.ga K "NoKind")&&(oexCB K (He.ga K "Endless")&&(no2B K (He.ga K "NO_GROVES")&&(ermB K (He.ga K) eC eN)))
abbrev R:PySem.W.OpenRow:=PySem.W.OpenLaw.row PySem.Challenge.rw_felltimber_k57_who_outlasts
abbrev hk:PySem.W.Hook:=hookE 6 fa fn exOk
def ob (s:PySem.W.SharedT):AlE:=obsE 6 fa fn exOk (HandSHeadRun.getT s)
theorem ob_eq (s:PySem.W.SharedT):ob s=hk.obs s.abs:=obsE_eq (HandSHeadRun.getT_eq s)
def loose:List PySem.Str:=(["_wall","is_whole","is_many","is_name","is_rising","joined","many_at","run_of","FellError","NoPlace","NoBook","NoKind"]:List PySem.Str)++(["Endless","is_tree","is_grove","are_grove_pairs","pairs_within","kinds_within","Book","rules_from_nought","check_kind","check_kinds","are_kinds","is_kind"]:List PySem.Str)++(["is_rule","is_rule_of","tree_at","all_places","steps_of","steps_in","leads","ending_kinds","lead_into","endless_kinds","check_ends","number"]:List PySem.Str)++(["is_less","behind","both","all_together","many_of","power","above","spread","rank","own_ranks","climb","reckoned"]:List PySem.Str)++(["reckoned_tree","laden","outlasts","check_hands","Duel","_law_pot","_law_take","_law_less","_law_behind","_law_both","_law_above","_law_own"]:List PySem.Str)++(["_law_rank","_law_grove_of","_law_names","_law_drawn_grove","_law_drawn_book","_law_kinds","_law_two","_law_refusal","_law_refused","LETTERS","LONGEST_NAME","MOST_KINDS"]:List PySem.Str)++(["MOST_MANY","MOST_RULES","MOST_RULE_PARTS","NO_GROVES"]:List PySem.Str)
def KTr (s:PySem.W.SharedT):PySem.W.Frag:=He.frG (HandSHeadRun.getT s) (He.asD (HandSHeadRun.getT s) 6)
theorem run1 (w:World) (os:PySem.OsState):(HandSHeadRun.endF (HandSHeadRun.stepQ (HandSHeadRun.denQ HandSHeadRun.tabQ) R.prog w) 9000 R.prog w os).map (fun s=>HandSHeadRun.looksF R.prog (PySem.W.boot_heap w.params) s.abs)=some true:=by
 kernel_rfl
theorem run2 (w:World) (os:PySem.OsState):(HandSHeadRun.endF (HandSHeadRun.stepQ (HandSHeadRun.denQ HandSHeadRun.tabQ) R.prog w) 9000 R.prog w os).map (fun s=>HandSHeadRun.seenQ (PySem.W.view R.prog [88]) loose (importedModules R.prog.main.body) (fun s=>xlAt (PySem.W.view R.prog [88]) [] s&&recOk R.toRowW.records s) s.abs)=some (openGood (PySem.W.view R.prog [88]) loose):=by
 kernel_rfl
theorem run3 (w:World) (os:PySem.OsState):(HandSHeadRun.endF (HandSHeadRun.stepQ (HandSHeadRun.denQ HandSHeadRun.tabQ) R.prog w) 9000 R.prog w os).map (fun s=>fa1.all fun f=>f.ok (KTr s))=some true:=by
 kernel_rfl
theorem run4 (w:World) (os:PySem.OsState):(HandSHeadRun.endF (HandSHeadRun.stepQ (HandSHeadRun.denQ HandSHeadRun.tabQ) R.prog w) 9000 R.prog w os).map (fun s=>fa2.all fun f=>f.ok (KTr s))=some true:=by
 kernel_rfl
theorem run5 (w:World) (os:PySem.OsState):(HandSHeadRun.endF (HandSHeadRun.stepQ (HandSHeadRun.denQ HandSHeadRun.tabQ) R.prog w) 9000 R.prog w os).map (fun s=>fn.all fun d=>d.ok (KTr s))=some true:=by
 kernel_rfl
theorem run6 (w:World) (os:PySem.OsState):(HandSHeadRun.endF (HandSHeadRun.stepQ (HandSHeadRun.denQ HandSHeadRun.tabQ) R.prog w) 9000 R.prog w os).map (fun s=>fn.map fun d=>He.fnW (KTr s) d.at_)=some (fn.map He.DefD.val):=by
 kernel_rfl
theorem run7 (w:World) (os:PySem.OsState):(HandSHeadRun.endF (HandSHeadRun.stepQ (HandSHeadRun.denQ HandSHeadRun.tabQ) R.prog w) 9000 R.prog w os).map (fun s=>exOk (KTr s))=some true:=by
 kernel_rfl
theorem map3 {σ α β γ:Type} {o:Option σ} {A:σ->α} {B:σ->β} {C:σ->γ} {a:α} {b:β} {c:γ} (h1:o.map A=some a) (h2:o.map B=some b) (h3:o.map C=some c):o.map (fun s=>(A s,B s,C s))=some (a,b,c):=by
 cases o with
 | none=>cases h1
 | some s=>exact congrArg some (Prod.ext (Option.some.inj h1) (Prod.ext (Option.some.inj h2) (Option.some.inj h3)))
theorem mapE {σ:Type} {o:Option σ} {f1 f2:List He.Fa} {gn:List He.DefD} {ex:PySem.W.Frag->Bool} (K:σ->PySem.W.Frag) (h1:o.map (fun s=>f1.all fun f=>f.ok (K s))=some true) (h2:o.map (fun s=>f2.all fun f=>f.ok (K s))=some true) (h3:o.map (fun s=>gn.all fun d=>d.ok (K s))=some true) (h4:o.map (fun s=>gn.map fun d=>He.fnW (K s) d.at_)=some (gn.map He.DefD.val)) (h5:o.map (fun s=>ex (K s))=some true):o.map (fun s=>(He.obsD (f1++f2) gn (K s),ex (K s)))=some (He.valD gn,true):=by
 cases o with
 | none=>cases h1
 | some s =>
  have e1:(f1.all fun f=>f.ok (K s))=true:=Option.some.inj h1
  have e2:(f2.all fun f=>f.ok (K s))=true:=Option.some.inj h2
  have e3:(gn.all fun d=>d.ok (K s))=true:=Option.some.inj h3
  have e4:(gn.map fun d=>He.fnW (K s) d.at_)=gn.map He.DefD.val:=Option.some.inj h4
  have e5:ex (K s)=true:=Option.some.inj h5
  refine congrArg some (Prod.ext (Prod.ext ?_ e4) e5)
  show (((f1++f2).all fun f=>f.ok (K s))&&gn.all fun d=>d.ok (K s))=true
  rw [List.all_append,e1,e2,e3]; rfl
theorem run (w:World):HandSHeadRun.RunEq R (PySem.W.view R.prog [88]) hk ob 9000 loose w:=by
 intro os
 exact map3 (run1 w os) (run2 w os) (mapE KTr (run3 w os) (run4 w os) (run5 w os) (run6 w os) (run7 w os))
section
variable {P:Program} {w:World} {K:PySem.W.Frag} {mg:Str->Option Value} {base:Heap} {f:Addr} {fd:FuncData} {ps:List Addr}
theorem sc_is_whole:FnScope ["thing"] ["thing"] (defScope s_is_whole):=⟨rfl,rfl,rfl,by decide +kernel,rfl,by decide +kernel,by decide +kernel⟩
theorem ok_is_whole (B:BI mg) (F:Fun K "is_whole" "is_whole" s_is_whole f fd):FnOk P w K mg base CX0 1 f fd ["thing"] (spWhole K):=by
 refine F.ok sc_is_whole (fun vs H Q E h=>?_) (fun cdv A outer s H vs Q E hr h=>?_)
 ·obtain ⟨v,n,b1,b2,rfl,_⟩:=h
  rfl
 obtain ⟨v,n,b1,b2,rfl,ty,k1,k2,q⟩:=h
 refine ⟨_,pss_one (ps_ret (pe_and (pe_isi B (pv 0) B.int boot_int) (pe_one (pe_not (pe_isi B (pv 0) B.bool boot_bool))))),?_⟩
 refine ⟨_,rfl,_,_,n,b1,rfl,ty,k1,b1,rfl,?_⟩
 cases b1 with
 | false=>exact iteF q
 | true =>
  refine iteT ⟨_,rfl,_,_,n,b2,rfl,ty,k2 rfl,b2,rfl,?_⟩
  exact q
end
section
variable {P:Program} {w:World} {K:PySem.W.Frag} {mg:Str->Option Value} {base:Heap} {f:Addr} {fd:FuncData} {ps:List Addr}
theorem sc_is_many:FnScope ["thing"] ["thing"] (defScope s_is_many):=⟨rfl,rfl,rfl,by decide +kernel,rfl,by decide +kernel,by decide +kernel⟩
theorem ok_is_many {ps:List Addr} (B:BI mg) (G:Got P w K mg base "is_whole" ["thing"] 1 (spWhole K)) (F:Fun K "is_many" "is_many" s_is_many f fd):FnOk P w K mg base CX0 2 f fd ["thing"] (spMany K ps):=by
 refine F.ok sc_is_many (fun vs H Q E h=>?_) (fun cdv A outer s H vs Q E hr h=>?_)
 ·obtain ⟨v,d,rfl,_⟩:=h
  rfl
 obtain ⟨v,d,rfl,th,q⟩:=h
 refine ⟨_,pss_one (ps_ret (pe_and (pe_got G hr rfl (pa_cons (pv 0) pa_nil)) (pe_one (pe_cmpR op_ge (pv 0) pe_int (nomark _))))),?_⟩
 obtain ⟨n,b1,b2,ty,k1,k2,y1,y2⟩:=th.whole
 refine ⟨_,rfl,v,n,b1,b2,rfl,ty,k1,k2,b1&&!b2,rfl,?_⟩
 cases e:(b1&&!b2) with
 | false =>
  refine iteF ?_
  rw [y2 e] at q
  exact q
 | true =>
  obtain ⟨i,rfl,rfl⟩:=y1 e
  exact iteT ⟨_,rfl,_,_,rfl,rfl,q⟩
end
section
variable {P:Program} {w:World} {K:PySem.W.Frag} {mg:Str->Option Value} {base:Heap} {f:Addr} {fd:FuncData}
theorem sc_is_name:FnScope ["thing"] ["thing"] (defScope s_is_name):=⟨rfl,rfl,rfl,by decide +kernel,rfl,by decide +kernel,by decide +kernel⟩
theorem ok_is_name (B:BI mg) (L:∃ t,mg "LETTERS"=some (.str abc t)) (N:∃ t,mg "LONGEST_NAME"=some (.int 8 t)) (G:Got P w K mg base "run_of" ["text","at","signs"] 1 (spRunOf K)) (F:Fun K "is_name" "is_name" s_is_name f fd):FnOk P w K mg base CX0 2 f fd ["thing"] (spName K):=by
 refine F.ok sc_is_name (fun vs H Q E h=>?_) (fun cdv A outer s H vs Q E hr h=>?_)
 ·obtain ⟨v,d,rfl,_⟩:=h
  rfl
 obtain ⟨v,d,rfl,th,q⟩:=h
 obtain ⟨tl,hL⟩:=L
 obtain ⟨tn,hN⟩:=N
 refine ⟨_,pss_cons (ps_if (PW.pt (pw_or (pt_not (pt_val (pe_isi B (pv 0) B.str boot_str))) (pw_or1 (pt_not (pt_chain op_le op_le pe_int (pe_callB call_len_str rfl B.len PySem.boot_len (pa_cons (pv 0) pa_nil)) (pe_glob (v:=.int 8) rfl hN ⟨_,rfl⟩)))))) (pss_one (ps_ret pe_bl)) pss_nil)
  (pss_one (ps_ret (pe_cmpR op_eq (pe_got G hr rfl (pa_cons (pv 0) (pa_cons pe_int (pa_cons (pe_glob (v:=.str abc) rfl hL ⟨_,rfl⟩) pa_nil)))) (pv 0) (nomark _)))),?_⟩
 obtain ⟨n1,b,ty,kb,y1,y2⟩:=th.txt
 refine ⟨_,rfl,_,_,n1,b,rfl,ty,kb,b,rfl,?_⟩
 cases b with
 | false =>
  refine iteT (iteT ?_)
  have e:nameD d=false:=by
   cases d with
   | str z=>exact absurd rfl (y2 rfl z)
   | _=>simp [nameD]
  have:=q H SB.refl
  rw [e] at this
  exact this
 | true =>
 refine iteF ?_
 obtain ⟨z,rfl,rfl,hz⟩:=y1 rfl
 have hzl:z.length<=sizeLine:=by have:=sizeLine_eq; omega
 refine ⟨_,rfl,z,rfl,hzl,_,_,rfl,rfl,_,rfl,?_⟩
 by_cases h1:1<=z.length
 ·rw [show decide ((1:Int)<=(z.length:Int))=true from decide_eq_true (by omega)]
  refine iteT ⟨_,_,rfl,rfl,_,rfl,?_⟩
  by_cases h8:z.length<=8
  ·rw [show decide ((z.length:Int)<=8)=true from decide_eq_true (by omega)]
   refine iteF ?_
   refine ⟨_,rfl,z,abc,0,rfl,by omega,Nat.zero_le _,fun e _ he hin hout=>?_⟩
   refine ⟨_,rfl,rfl,?_⟩
   have:=q H SB.refl
   rw [<- run_name h1 h8 he hin hout] at this
   exact this
  ·rw [show decide ((z.length:Int)<=8)=false from decide_eq_false (by omega)]
   have:=q H SB.refl
   rw [name_out fun h=>h8 h.2] at this
   exact iteT this
 ·rw [show decide ((1:Int)<=(z.length:Int))=false from decide_eq_false (by omega)]
  have:=q H SB.refl
  rw [name_out fun h=>h1 h.1] at this
  exact iteF ⟨_,rfl,iteT this⟩
end
section
variable {P:Program} {w:World} {K:PySem.W.Frag} {mg:Str->Option Value} {base:Heap} {f:Addr} {fd:FuncData} {ps:List Addr}
theorem sc_is_rising:FnScope N_rising ["things"] (defScope s_is_rising):=⟨rfl,rfl,rfl,by decide +kernel,rfl,by decide +kernel,by decide +kernel⟩
theorem ok_is_rising (B:BI mg) (F:Fun K "is_rising" "is_rising" s_is_rising f fd):FnOk P w K mg base CX0 1 f fd ["things"] (spRising K):=by
 refine F.ok sc_is_rising (fun vs H Q E h=>?_) (fun cdv A outer s H vs Q E hr h=>?_)
 ·obtain ⟨v,n,b1,rfl,_⟩:=h
  rfl
 obtain ⟨a,xs,ds,rfl,hS,hDp,hok,hal,hz,q⟩:=h
 have hu:A.units+200 < cLine:=by have:=hr.un; show A.units+200 < cLine; have h3:(A.deeper (envOfC "is_rising" (defScope s_is_rising) s.heap.objs.size f cdv)).units=A.units+3:=rfl; omega
 refine ⟨_,pss_one (ps_ret (pe_callB (cr_all rfl) rfl B.all boot_all (pa_cons
  (pe_lc (own:=[("low",1),("high",2)]) (g:=gTup K 2 (gCons (gName 1) (gCons (gName 2) gNil))) (tt:=tYes) (te:=tOp (rLtD K) (tVar 1) (tVar 2)) rfl sc_is_rising.nd
   (pi_zip rfl B.zip (pa_cons (pv 0) (pa_cons (pe_slice sl_list (pv 0) (po_some pe_int) po_none) pa_nil)))
   (blkOk_by (N:=N_rising) (sc:=defScope s_is_rising) (by decide +kernel))
   (fun _ _ _ _ _=>pg_tup rfl (pgs_cons (pg_name (i:=1) sc_is_rising.nd rfl (.inl rfl)) (pgs_cons (pg_name (i:=2) sc_is_rising.nd rfl (.inl rfl)) pgs_nil)))
   (fun _ _ _ _ _=>pts_nil)
   (fun _ _ _ _ _=>pe_cmpR (op_ltD (by have:=hu; show A.units+3+100 < cLine; omega)) (pv 1) (pv 2) (nomark _))) pa_nil))),?_⟩
 refine ⟨_,rfl,_,rfl,1,rfl,a,xs,rfl,hS,fun p hp=>?_⟩
 rw [cut1]
 have e1:SB [] H (upd H p (.lst (xs.drop 1))):=SB.new hp _
 refine ⟨a,p,xs,xs.drop 1,rfl,e1.sqL nmn hS,SqL.of upd_same,fun D hD=>?_⟩
 have hpD:p ≠ D:=fun z=>by subst z; rw [upd_same] at hD; cases hD
 have dl:ds.length=xs.length:=(DpAll.length hDp).symm
 refine lc_it (walk_zip (n:=min xs.length (xs.drop 1).length) rfl) (fun i H2=>SB [D] (upd H p (.lst (xs.drop 1))) H2/\H2 D=some (.lst (((ltsD ds).take i).map V.bl))) ⟨SB.new hD _,upd_same⟩ (fun i H2 hi h2=>?_) (fun i x H2 H' hi h2 y=>?_) (fun H2 h2=>?_)
 ·obtain ⟨h2,h3⟩:=h2
  have h4:=h2.drop hD
  exact ⟨(e1.trans h4).sqL nmn hS,h4.sqL nmn (SqL.of upd_same)⟩
 ·obtain ⟨h2,h3⟩:=h2
  have h4:=e1.trans (h2.drop hD)
  obtain ⟨T,x1,y1,rfl,hT,rfl,ex,ey⟩:=y
  have ey:(xs.drop 1)[i]?=some y1:=ey
  rw [List.getElem?_drop,Nat.add_comm] at ey
  obtain ⟨d,ed,hd⟩:=DpAll.get hDp ex
  obtain ⟨d',ed',hd'⟩:=DpAll.get (i:=i+1) hDp ey
  have e5:SB [] H (upd H2 T (.tup [x1,y1])):=h4.trans (SB.new hT _)
  have m1:=List.mem_of_getElem? ed
  have m2:=List.mem_of_getElem? ed'
  have hTD:D ≠ T:=fun z=>by subst z; rw [h3] at hT; cases hT
  refine ⟨T,_,rfl,SqT.of upd_same,rfl,_,_,rfl,_,_,rfl,rfl,rfl,?_⟩
  refine ⟨_,rfl,_,rfl,d,d',Dp_sb e5 _ _ (hok d m1).1 hd,Dp_sb e5 _ _ (hok d' m2).1 hd',hal d m1 d' m2,(hok d m1).2.1,(hok d m1).2.2,_,by rw [upd_ne hTD]; exact h3,?_,?_⟩
  ·have:=ltsD_length ds
   rw [List.length_map,List.length_take]
   exact small1000 (by omega)
  ·refine ⟨(h2.trans (SB.new hT _)).trans (SB.set (by rw [upd_ne hTD]; exact h3) (by simp) _),?_⟩
   rw [upd_same,List.take_add_one,ltsD_get ds i d d' ed ed']
   simp
 ·obtain ⟨h2,h3⟩:=h2
  have h4:=e1.trans (h2.drop hD)
  have e6:(ltsD ds).take (min xs.length (xs.drop 1).length)=ltsD ds:=by
   apply List.take_of_length_le
   rw [ltsD_length,List.length_drop]
   omega
  rw [e6] at h3
  exact ⟨D,_,rfl,SqL.of h3,q _ h4⟩
end
section
variable {P:Program} {w:World} {K:PySem.W.Frag} {mg:Str->Option Value} {base:Heap} {f:Addr} {fd:FuncData}
abbrev N_joined:List Str:=["pairs","row","thing","many"]
theorem sc_joined:FnScope N_joined ["pairs"] (defScope s_joined):=⟨rfl,rfl,rfl,by decide +kernel,rfl,by decide +kernel,by decide +kernel⟩
theorem ok_joined {γ:Type} [DecidableEq γ] {enc:γ->PyData} (hnl:∀ g,noList (enc g)=true) (heq:∀ g h,PyData.eqv (enc g) (enc h)=decide (g=h)) (B:BI mg) (F:Fun K "joined" "joined" s_joined f fd):FnOk P w K mg base CX0 1 f fd ["pairs"] (spJoined K enc):=by
 refine F.ok sc_joined (fun vs H Q E h=>?_) (fun cdv A outer s H vs Q E hr h=>?_)
 ·obtain ⟨a,xs,bs,rfl,_⟩:=h
  rfl
 obtain ⟨a,xs,bs,rfl,hs,hb,hl,hsh,q⟩:=h
 have hun2:=hunT hr
 refine ⟨_,pss_cons (ps_set (i:=1) sc_joined.nd rfl (.inl rfl) (pe_lst pa_nil))
  (pss_cons (ps_for PassesOwn.never rfl (pi_list (pv 0)) (pg_tup rfl (pgs_cons (pg_name (i:=2) sc_joined.nd rfl (.inl rfl)) (pgs_cons (pg_name (i:=3) sc_joined.nd rfl (.inl rfl)) pgs_nil)))
   (pss_one (ps_if (PW.pt (pw_and (pt_truth (pv 1) (by intro _; rfl)) (pw_and1 (pt_cmpR (op_eqD (by show A.units+3+64 < cLine; omega)) (pe_ix ix_tup (pe_ix ix_list (pv 1) (pe_un un_neg pe_int) (fun _ _=>rfl)) pe_int (fun _ _=>rfl)) (pv 2) (nomark _)))))
    (pss_one (ps_asg (pe_tup (pa_cons (pv 2) (pa_cons (pe_op op_add (pe_ix ix_tup (pe_ix ix_list (pv 1) (pe_un un_neg pe_int) (fun _ _=>rfl)) pe_int (fun _ _=>rfl)) (pv 3)) pa_nil))) (pg_sub (pv 1) (pe_un un_neg pe_int) set_list)))
    (pss_one (ps_expr (pe_bm PySem.F.plainAttrs_list PySem.F.slot_list_append PySem.F.type_list_append mt_append (pv 1) (pa_cons (pe_tup (pa_cons (pv 2) (pa_cons (pv 3) pa_nil))) pa_nil)))))))
  (pss_one (ps_ret (pe_callTy call_tuple_of rfl B.tuple boot_tuple (pa_cons (pv 1) pa_nil))))),?_⟩
 refine ⟨(by show 0<=sizeLine; decide),fun D hD=>?_⟩
 have t0:=SB.new (ps:=[]) hD (.lst [])
 refine ⟨_,rfl,a,rfl,⟨xs,t0.sqL nmn hs⟩,?_⟩
 have xl:=hb.length
 refine for_list (K:=K) (a:=a) (xs:=xs) (fun i σ H2=>SB [D] H H2/\∃ acc o2 o3,σ=[some (.ref a),some (.ref D),o2,o3]/\H2 D=some (.lst acc)/\Bears K H2 (pairE enc) acc (jn (bs.take i))) ⟨SB.new hD _,[],none,none,rfl,upd_same,.nil⟩ (fun i σ H2 hi h2=>(h2.1.drop hD).sqL nmn hs) (fun i x σ H2 hx h2=>?_) (fun σ H2 h2=>?_)
 ·obtain ⟨s2,acc,o2,o3,rfl,hD2,hb2⟩:=h2
  have s2':=s2.drop hD
  obtain ⟨p,ep,hpd⟩:=hb.get hx
  have pm:=List.mem_of_getElem? ep
  obtain ⟨ad,ux,rfl,hsx,hdx⟩:=pair_at hpd
  have al:=hb2.length
  have jl:=jn_length (bs.take i)
  rw [List.length_take] at jl
  have nl:=pairE_noList hnl
  rw [jn_take bs i p ep]
  have hdx2:=Dp_sb s2' _ _ (hnl _) hdx
  refine ⟨ad,_,rfl,s2'.sqT hsx,rfl,_,_,rfl,_,_,rfl,rfl,?_⟩
  -- the row ahead: none,or a last one
  have app:jstep (jn (bs.take i)) p=jn (bs.take i)++[p]->tDrop (tBM K "list" rAppend (tVar 1) (tCons (tTup (tCons (tVar 2) (tCons (tVar 3) tNil))) tNil)) { nx:=fun σ H2=>SB [D] H H2/\∃ acc o2 o3,σ=[some (.ref a),some (.ref D),o2,o3]/\H2 D=some (.lst acc)/\Bears K H2 (pairE enc) acc (jstep (jn (bs.take i)) p),rt:=Q } [some (.ref a),some (.ref D),some ux,some (.int p.2)] H2:=by
   intro e
   rw [e]
   refine ⟨_,rfl,.inl ⟨rfl,_,SqL.of hD2⟩,_,rfl,_,rfl,(by show 2<=sizeLine; decide),fun t ht=>?_⟩
   have t3:=SB.new (ps:=[D]) ht (.tup [ux,.int p.2])
   have hD3:(upd H2 t (.tup [ux,.int p.2])) D=some (.lst acc):=by rw [upd_ne (ne_of_none hD2 ht)]; exact hD2
   refine ⟨D,acc,_,rfl,rfl,hD3,small1000 (by omega),?_⟩
   have t4:=SB.set (ps:=[D]) hD3 (by simp) (.lst (acc++[.ref t]))
   exact ⟨(s2.trans t3).trans t4,_,_,_,rfl,upd_same,Bears.append ((hb2.sb t3 nl).sb t4 nl) (.cons (pair_mk (t4.sqT (SqT.of upd_same)) (Dp_sb t4 _ _ (hnl _) (Dp_sb t3 _ _ (hnl _) hdx2))) .nil)⟩
  rcases List.eq_nil_or_concat (jn (bs.take i)) with he | ⟨js,z,he⟩
  ·rw [he] at hb2 app
   cases hb2
   refine ⟨_,rfl,_,.inl ⟨[],SqL.of hD2,rfl⟩,iteF (iteF ?_)⟩
   rw [he]
   exact app rfl
  ·rw [List.concat_eq_append] at he
   rw [he] at hb2 app
   rw [he]
   obtain ⟨us,u,rfl,hus,hu⟩:=hb2.snoc
   obtain ⟨az,uz,rfl,hsz,hdz⟩:=pair_at hu
   have zsh:SeqAt.shaped (enc z.1)=true:=by
    obtain ⟨q2,hq2,eq2⟩:=jn_keys (bs.take i) z (by rw [he]; simp)
    rw [<- eq2]
    exact hsh q2 (List.mem_of_mem_take hq2)
   refine ⟨_,rfl,_,.inl ⟨us++[.ref az],SqL.of hD2,rfl⟩,?_⟩
   have e0:(!(us++[V.ref az]).isEmpty)=true:=by simp
   rw [e0]
   refine iteT ?_
   refine ⟨_,rfl,1,rfl,D,_,_,_,rfl,rfl,SqL.of hD2,at_last,az,_,_,_,rfl,rfl,hsz,atI_nat (j:=0) rfl,_,rfl,enc z.1,enc p.1,hdz,hdx2,zsh,hsh p pm,_,rfl,?_⟩
   rw [heq]
   by_cases hz:z.1=p.1
   ·rw [show decide (z.1=p.1)=true by simp [hz]]
    refine iteT ?_
    refine ⟨_,rfl,_,rfl,1,rfl,D,_,_,_,rfl,rfl,SqL.of hD2,at_last,az,_,_,_,rfl,rfl,hsz,atI_nat (j:=1) rfl,_,rfl,_,_,rfl,rfl,(by show 2<=sizeLine; decide),fun t ht=>?_⟩
    have t3:=SB.new (ps:=[D]) ht (.tup [ux,.int (z.2+p.2)])
    have hD3:(upd H2 t (.tup [ux,.int (z.2+p.2)])) D=some (.lst (us++[.ref az])):=by rw [upd_ne (ne_of_none hD2 ht)]; exact hD2
    refine ⟨_,rfl,1,rfl,D,_,_,us.length,rfl,rfl,hD3,ixN_last,?_⟩
    rw [set_last]
    have t4:=SB.set (ps:=[D]) hD3 (by simp) (.lst (us++[.ref t]))
    refine ⟨(s2.trans t3).trans t4,_,_,_,rfl,upd_same,?_⟩
    rw [jstep_snoc,if_pos hz]
    exact Bears.append ((hus.sb t3 nl).sb t4 nl) (.cons (pair_mk (t4.sqT (SqT.of upd_same)) (Dp_sb t4 _ _ (hnl _) (Dp_sb t3 _ _ (hnl _) hdx2))) .nil)
   ·rw [show decide (z.1=p.1)=false by simp [hz]]
    refine iteF ?_
    exact app (by rw [jstep_snoc,if_neg hz])
 ·obtain ⟨s2,acc,o2,o3,rfl,hD2,hb2⟩:=h2
  rw [xl,List.take_length] at hb2
  refine ⟨_,rfl,D,acc,rfl,.inl ⟨SqL.of hD2,fun t ht=>?_⟩⟩
  have t3:=SB.new (ps:=[]) ht (.tup acc)
  exact q _ _ _ ((s2.drop hD).trans t3) (SqT.of upd_same) (hb2.sb t3 (pairE_noList hnl))
abbrev N_manyat:List Str:=["pairs","thing","other","many"]
theorem sc_many_at:FnScope N_manyat ["pairs","thing"] (defScope s_many_at):=⟨rfl,rfl,rfl,by decide +kernel,rfl,by decide +kernel,by decide +kernel⟩
theorem ok_many_at (B:BI mg) (F:Fun K "many_at" "many_at" s_many_at f fd):FnOk P w K mg base CX0 1 f fd ["pairs","thing"] (spManyAt K):=by
 refine F.ok sc_many_at (fun vs H Q E h=>?_) (fun cdv A outer s H vs Q E hr h=>?_)
 ·obtain ⟨v,u,l,e,rfl,_⟩:=h
  rfl
 obtain ⟨v,u,l,e,rfl,hv,hu,hd,hd2,hp,q⟩:=h
 have hun2:=hunT hr
 refine ⟨_,pss_one (ps_ret (pe_callB (cr_sum rfl) rfl B.sum boot_sum (pa_cons
  (pe_lc (own:=[("other",2),("many",3)]) (g:=gTup K 2 (gCons (gName 2) (gCons (gName 3) gNil))) (tt:=tTest (tOp (rEqD K) (tVar 2) (tVar 1))) (te:=tVar 3) rfl sc_many_at.nd (pi_tup (pv 0))
   (blkOk_by (N:=N_manyat) (sc:=defScope s_many_at) (by decide +kernel))
   (fun _ _ _ _ _=>pg_tup rfl (pgs_cons (pg_name (i:=2) sc_many_at.nd rfl (.inl rfl)) (pgs_cons (pg_name (i:=3) sc_many_at.nd rfl (.inl rfl)) pgs_nil)))
   (fun _ _ _ _ _=>pts_one (pt_cmpR (op_eqD (by show A.units+3+64 < cLine; omega)) (pv 2) (pv 1) (nomark _)))
   (fun _ _ _ _ _=>pv 3)) pa_nil))),?_⟩
 obtain ⟨a,xs,rfl,hs,hb⟩:=LA_bears hv
 have bl:=hb.length
 have lp:=l.len_parts
 rw [<- Lad.ps_length] at lp
 refine ⟨_,rfl,a,rfl,⟨xs,hs⟩,fun D hD=>?_⟩
 refine lc_it (walk_tup (xs:=xs)) (fun i H2=>SB [D] H H2/\H2 D=some (.lst ((((l.ps.take i).filter fun p=>decide (p.1=e)).map (·.2)).map V.int))) ⟨SB.new hD _,upd_same⟩ (fun i H2 hi h2=>(h2.1.drop hD).sqT hs) (fun i x H2 H' hi h2 y=>?_) (fun H2 h2=>?_)
 ·obtain ⟨s2,hD2⟩:=h2
  obtain ⟨rfl,ex⟩:=y
  have s2':=s2.drop hD
  obtain ⟨b,eb,hbd⟩:=hb.get ex
  obtain ⟨ad,ux,rfl,hs2,hla⟩:=LA_pair hbd
  have bd:=l.mem_deep b (List.mem_of_getElem? eb)
  refine ⟨ad,_,rfl,s2'.sqT hs2,rfl,_,_,rfl,_,_,rfl,rfl,rfl,?_⟩
  refine ⟨_,rfl,_,rfl,b.1.enc,e.enc,hla.sb s2',hu.sb s2',Lad.shaped_enc (by omega),Lad.shaped_enc (by omega),_,rfl,?_⟩
  rw [Lad.eqv_enc]
  have fl:=List.length_filter_le (fun p:Lad × Int=>decide (p.1=e)) (l.ps.take i)
  rw [List.length_take] at fl
  by_cases he:b.1=e
  ·rw [show decide (b.1=e)=true by simp [he]]
   refine iteT ?_
   refine ⟨_,rfl,_,hD2,?_,?_⟩
   ·rw [List.length_map,List.length_map]; exact small1000 (by omega)
   ·refine ⟨s2.trans (SB.set hD2 (by simp) _),?_⟩
    rw [upd_same,List.take_add_one,eb,List.filter_append]
    simp [he]
  ·rw [show decide (b.1=e)=false by simp [he]]
   refine iteF ?_
   refine ⟨s2,?_⟩
   rw [hD2,List.take_add_one,eb,List.filter_append]
   simp [he]
 ·obtain ⟨s2,hD2⟩:=h2
  rw [bl,List.take_length] at hD2
  exact ⟨D,_,rfl,SqL.of hD2,q _ (s2.drop hD)⟩
theorem sc_run_of:FnScope ["text","at","signs","end"] ["text","at","signs"] (defScope s_run_of):=⟨rfl,rfl,rfl,by decide +kernel,rfl,by decide +kernel,by decide +kernel⟩
theorem ok_run_of (B:BI mg) (F:Fun K "run_of" "run_of" s_run_of f fd):FnOk P w K mg base CX0 1 f fd ["text","at","signs"] (spRunOf K):=by
 refine F.ok sc_run_of (fun vs H Q E h=>?_) (fun cdv A outer s H vs Q E hr h=>?_)
 ·obtain ⟨z,y,k,rfl,_⟩:=h
  rfl
 obtain ⟨z,y,k,rfl,hz,hk,q⟩:=h
 refine ⟨_,pss_cons (ps_set (i:=3) sc_run_of.nd rfl (.inl rfl) (pv 1))
  (pss_cons (ps_while PassesOwn.never (PW.pt (pw_and (pt_cmpR op_lt (pv 3) (pe_callB call_len_str rfl B.len PySem.boot_len (pa_cons (pv 0) pa_nil)) (nomark _)) (pw_and1 (pt_cmpR op_in_sign (pe_ix ix_str (pv 0) (pv 3) (fun _ _=>rfl)) (pv 2) (by rfl)))))
   (pss_one (ps_aug (i:=3) sc_run_of.nd rfl (.inl rfl) pe_int ip_add)))
  (pss_one (ps_ret (pe_slice sl_str (pv 0) (po_some (pv 1)) (po_some (pv 3)))))),?_⟩
 have hzl:z.length<=sizeLine:=by have:=sizeLine_eq; omega
 have hl:=len_cps z
 refine ⟨_,rfl,?_⟩
 refine ⟨fun mm σ H2=>∃ e:Nat,mm=z.length-e/\H2=H/\σ=[some (.str z),some (.int (k:Int)),some (.str y),some (.int (e:Int))]/\k<=e/\e<=z.length/\(∀ j c,k<=j->j < e->z.cps.toList[j]?=some c->c ∈ y.cps.toList),⟨_,k,rfl,rfl,rfl,Nat.le_refl _,hk,fun j c h1 h2 _=>by omega⟩,fun mm σ H2 h2=>?_⟩
 obtain ⟨e,rfl,rfl,rfl,ke,el,hin⟩:=h2
 refine ⟨_,rfl,_,rfl,z,rfl,hzl,_,_,rfl,rfl,_,rfl,?_⟩
 have fin:(∀ c,z.cps.toList[e]?=some c->c ∉ y.cps.toList)->Q (.str (cutS z (some (k:Int)) (some (e:Int)))) H2:=fun ho=>q e ke el hin ho
 by_cases hlt:e < z.length
 ·rw [show decide ((e:Int) < (z.length:Int))=true from decide_eq_true (by omega)]
  refine iteT ?_
  obtain ⟨c,hc⟩:∃ c,z.cps.toList[e]?=some c:=⟨_,List.getElem?_eq_getElem (by omega)⟩
  refine ⟨_,rfl,_,rfl,z,_,c,rfl,rfl,hzl,atI_natN hc,_,rfl,c,y,rfl,rfl,_,rfl,?_⟩
  by_cases hm:c ∈ y.cps.toList
  ·rw [decide_eq_true hm]
   refine iteT ?_
   refine ⟨_,fun σ' H' z=>z,?_⟩
   refine ⟨_,rfl,_,_,rfl,rfl,z.length-(e+1),by omega,e+1,rfl,rfl,rfl,by omega,by omega,fun j c' h1 h2 h3=>?_⟩
   rcases Nat.lt_or_ge j e with h | h
   ·exact hin j c' h1 h h3
   ·have:j=e:=by omega
    subst this
    rw [hc] at h3; cases h3; exact hm
  ·rw [decide_eq_false hm]
   refine iteF ?_
   refine ⟨_,rfl,_,rfl,_,rfl,_,rfl,_,rfl,z,rfl,hzl,fin fun c' h'=>?_⟩
   rw [hc] at h'; cases h'; exact hm
 ·rw [show decide ((e:Int) < (z.length:Int))=false from decide_eq_false (by omega)]
  refine iteF (iteF ?_)
  refine ⟨_,rfl,_,rfl,_,rfl,_,rfl,_,rfl,z,rfl,hzl,fin fun c' h'=>?_⟩
  have:=(List.getElem?_eq_some_iff.mp h').1
  omega
theorem sc_is_tree:FnScope ["thing"] ["thing"] (defScope s_is_tree):=⟨rfl,rfl,rfl,by decide +kernel,rfl,by decide +kernel,by decide +kernel⟩
theorem none_is_tree {ps:List Str} {k:Nat}:FnOk P w K mg base CX0 k f fd ps (spIsTree K 0):=none_sp fun vs H Q E ⟨v,d,_,_,h,_⟩=>by omega
theorem ok_is_tree {n:Nat} (B:BI mg) (GN:Got P w K mg base "is_name" ["thing"] 2 (spName K)) (G:Got P w K mg base "is_grove" ["thing"] (n+3) (spIsGrove K n)) (F:Fun K "is_tree" "is_tree" s_is_tree f fd) :
  FnOk P w K mg base CX0 (n+4) f fd ["thing"] (spIsTree K (n+1)):=by
 refine F.ok sc_is_tree (fun vs H Q E h=>?_) (fun cdv A outer s H vs Q E hr h=>?_)
 ·obtain ⟨v,l,rfl,_⟩:=h
  rfl
 obtain ⟨v,d,rfl,th,hd,h80,hw,q⟩:=h
 refine ⟨_,pss_one (ps_ret (pe_and (pe_isi B (pv 0) B.tuple boot_tuple) (pe_and (pe_cmpR op_eq (pe_callB call_len_seq rfl B.len PySem.boot_len (pa_cons (pv 0) pa_nil)) pe_int (nomark _))
  (pe_and (pe_got GN (hr.mono (by omega)) rfl (pa_cons (pe_ix ix_tup (pv 0) pe_int (fun _ _=>rfl)) pa_nil)) (pe_one (pe_got G hr rfl (pa_cons (pe_ix ix_tup (pv 0) pe_int (fun _ _=>rfl)) pa_nil))))))),?_⟩
 obtain ⟨n1,b,ty,kb,y1,y2⟩:=th.ty
 refine ⟨_,rfl,_,_,n1,b,rfl,ty,kb,b,rfl,?_⟩
 cases b with
 | false =>
  refine iteF ?_
  have e:treeD d=false:=by
   cases d with
   | tuple ds=>exact absurd rfl (y2 rfl ds)
   | _=>simp [treeD]
  have:=q H SB.refl
  rw [e] at this
  exact this
 | true =>
 refine iteT ?_
 obtain ⟨a,xs,ds,rfl,rfl,hs,ha⟩:=y1 rfl
 refine ⟨_,rfl,a,xs,rfl,.inr hs,rfl,_,rfl,?_⟩
 have hl:=TgAll.length ha
 refine ite2 (fun c=>?_) (fun c=>?_)
 ·have c':V.int (xs.length:Nat)=V.int 2:=of_decide_eq_true c
  injection c' with c'
  have c2:xs.length=2:=by omega
  cases ha with
  | nil=>simp at c2
  | cons t1 ta =>
   cases ta with
   | nil=>simp at c2
   | cons t2 ta =>
    cases ta with
    | cons t3 ta=>simp at c2
    | nil =>
     rename_i v1 d1 v2 d2
     have q1:d2.depth < PyData.depth (.tuple [d1,d2]):=by simp only [PyData.depth,PyData.depthAll]; omega
     have q2:wide d2<=wide (.tuple [d1,d2]):=by simp only [wide,wides]; omega
     refine ⟨_,rfl,a,_,_,_,rfl,rfl,hs,atI_nat (j:=0) rfl,v1,d1,rfl,t1,fun H1 h1=>?_⟩
     refine ⟨_,rfl,?_⟩
     cases e1:nameD d1 with
     | false =>
      refine iteF ?_
      have:=q H1 h1
      have e:treeD (.tuple [d1,d2])=false:=by simp [treeD,trD2,e1]
      rw [e] at this
      exact this
     | true =>
      refine iteT ?_
      refine ⟨_,rfl,a,_,_,_,rfl,rfl,h1.sqT hs,atI_nat (j:=1) rfl,v2,d2,rfl,Tg_sb h1 t2,by omega,by omega,by omega,fun H2 h2=>?_⟩
      have:=q H2 (h1.trans h2)
      have e:treeD (.tuple [d1,d2])=groveD d2:=by simp [treeD,trD2,trD3,e1]
      rw [e] at this
      exact this
 ·have c':¬ V.int (xs.length:Nat)=V.int 2:=of_decide_eq_false (Bool.eq_false_iff.mpr c)
  have c2:¬ xs.length=2:=fun z=>c' (by rw [z]; rfl)
  have e:treeD (.tuple ds)=false:=by
   cases e:treeD (.tuple ds) with
   | false=>rfl
   | true =>
    obtain ⟨t,e2⟩:=treeD_tr _ e
    injection e2 with e2
    rw [e2] at hl
    exact absurd hl c2
  have:=q H SB.refl
  rw [e] at this
  exact this
abbrev N_is_grove:List Str:=["thing","pair"]
theorem sc_is_grove:FnScope N_is_grove ["thing"] (defScope s_is_grove):=⟨rfl,rfl,rfl,by decide +kernel,rfl,by decide +kernel,by decide +kernel⟩
theorem none_is_grove {ps:List Str} {k:Nat}:FnOk P w K mg base CX0 k f fd ps (spIsGrove K 0):=none_sp fun vs H Q E ⟨v,d,_,_,h,_⟩=>by omega
theorem exp0_pEnc (bs:List (Tr × Int)):(bs.map Gr.pEnc).map exp0=bs.map fun p=>Gr.tEnc p.1:=by rw [List.map_map]; rfl
theorem noLists_trs:∀ bs:List (Tr × Int),noLists (bs.map fun p=>Gr.tEnc p.1)=true
 | []=>by simp [noLists]
 | p::r=>by rw [List.map_cons,noLists,noLists_trs r,Gr.noList_tEnc]; rfl
theorem ok_is_grove {n:Nat} (B:BI mg) (GR:Got P w K mg base "is_rising" ["things"] 1 (spRising K)) (G:Got P w K mg base "are_grove_pairs" ["things"] (n+3) (spPairsQ K true n)) (F:Fun K "is_grove" "is_grove" s_is_grove f fd) :
  FnOk P w K mg base CX0 (n+4) f fd ["thing"] (spIsGrove K (n+1)):=by
 refine F.ok sc_is_grove (fun vs H Q E h=>?_) (fun cdv A outer s H vs Q E hr h=>?_)
 ·obtain ⟨v,l,rfl,_⟩:=h
  rfl
 obtain ⟨v,d,rfl,th,hd,h80,hw,q⟩:=h
 refine ⟨_,pss_cons (ps_if (PW.pt (pw_or (pt_not (pt_val (pe_isi B (pv 0) B.tuple boot_tuple))) (pw_or1 (pt_not (pt_val (pe_got G hr rfl (pa_cons (pv 0) pa_nil))))))) (pss_one (ps_ret pe_bl)) pss_nil)
  (pss_one (ps_ret (pe_got GR (hr.mono (by omega)) rfl (pa_cons (pe_lc (own:=[("pair",1)]) (g:=gName 1) (tt:=tYes) (te:=tOp (rIxT K) (tVar 1) (tC (.int 0))) rfl sc_is_grove.nd
   (pi_tup (pv 0))
   (blkOk_by (N:=N_is_grove) (sc:=defScope s_is_grove) (by decide +kernel))
   (fun _ _ _ _ _=>pg_name (i:=1) sc_is_grove.nd rfl (.inl rfl))
   (fun _ _ _ _ _=>pts_nil)
   (fun _ _ _ _ _=>pe_ix ix_tup (pv 1) pe_int (fun _ _=>rfl))) pa_nil)))),?_⟩
 obtain ⟨n1,b,ty,kb,y1,y2⟩:=th.ty
 refine ⟨_,rfl,_,_,n1,b,rfl,ty,kb,b,rfl,?_⟩
 cases b with
 | false =>
  refine iteT (iteT ?_)
  have e:groveD d=false:=by
   cases d with
   | tuple ds=>exact absurd rfl (y2 rfl ds)
   | _=>simp [groveD]
  have:=q H SB.refl
  rw [e] at this
  exact this
 | true =>
 refine iteF ?_
 obtain ⟨a,xs,ds,rfl,rfl,hs,ha⟩:=y1 rfl
 have hl:=TgAll.length ha
 have m3:PyData.depth (.tuple ds)=PyData.depthAll ds+1:=by simp [PyData.depth]
 refine ⟨_,rfl,a,xs,ds,rfl,by simpa using hs,ha,by omega,by omega,hw,fun H2 h2=>⟨_,rfl,?_⟩⟩
 cases e1:grPs ds with
 | false =>
  refine iteT ?_
  have:=q H2 h2
  rw [groveD,e1] at this
  exact this
 | true =>
  refine iteF ?_
  obtain ⟨g,rfl⟩:=grPs_enc ds e1
  have hga:GA K H (.ref a) g:=Dp.tup hs (Tg_ga g ha)
  obtain ⟨a',xs',e',hs',hb⟩:=GA_bears (hga.sb h2)
  cases e'
  have hlen:=hb.length
  have gl:g.encs.length=g.ps.length:=by rw [Gr.encs_ps,List.length_map]
  rw [wide_tuple] at hw
  refine ⟨_,rfl,a,rfl,⟨xs',hs'⟩,fun D hD=>?_⟩
  refine lc_it (walk_tup (xs:=xs')) (fun i H3=>SB [D] H2 H3/\∃ acc,H3 D=some (.lst acc)/\DpAll K H3 acc ((g.ps.take i).map fun p=>Gr.tEnc p.1)) ⟨SB.new hD _,[],upd_same,.nil⟩ (fun i H3 hi h3=>(h3.1.drop hD).sqT hs') (fun i x H3 H' hi h3 y=>?_) (fun H3 h3=>?_)
  ·obtain ⟨h3,acc,h4,h5⟩:=h3
   obtain ⟨rfl,ex⟩:=y
   obtain ⟨p,ep,hpd⟩:=hb.get ex
   obtain ⟨ad,bd,ux,rfl,hsx,hst,hdx,hdt⟩:=PA_parts hpd
   have h6:=h3.drop hD
   have hla2:=DpAll.length h5
   refine ⟨rfl,?_⟩
   refine ⟨_,rfl,ad,_,_,_,rfl,rfl,h6.sqT hsx,atI_nat (j:=0) rfl,acc,h4,?_,?_⟩
   ·rw [hla2,List.length_map,List.length_take]
    exact small1000 (by omega)
   ·have h7:=SB.set (ps:=[D]) h4 (by simp) (.lst (acc++[.ref bd]))
    refine ⟨h3.trans h7,_,upd_same,?_⟩
    rw [List.take_add_one,ep,List.map_append]
    exact DpAll.append (DpAll_sb h7 _ _ (noLists_trs _) h5) (.cons (Dp_sb h7 _ _ (Gr.noList_tEnc _) (Dp_sb h6 _ _ (Gr.noList_tEnc _) hdt)) .nil)
  ·obtain ⟨h3',acc,h4,h5⟩:=h3
   rw [hlen,List.take_length] at h5
   have h6:=h3'.drop hD
   have hla2:=DpAll.length h5
   refine ⟨D,acc,g.ps.map fun p=>Gr.tEnc p.1,rfl,SqL.of h4,h5,?_,?_,?_,fun H9 h9=>?_⟩
   ·intro d hd'
    obtain ⟨p1,m1,rfl⟩:=List.mem_map.mp hd'
    have hd2:(Gr.pEnc p1).depth<=PyData.depthAll g.encs:=PyData.depth_le_depthAll _ _ (by rw [Gr.encs_ps]; exact List.mem_map_of_mem m1)
    have hd3:(Gr.tEnc p1.1).depth < (Gr.pEnc p1).depth:=by
     show _ < (PyData.tuple [Gr.tEnc p1.1,.int p1.2]).depth
     simp only [PyData.depth,PyData.depthAll]; omega
    exact ⟨Gr.noList_tEnc _,(fun z:Gr.tEnc p1.1=.none=>by simp [Gr.tEnc] at z),by omega⟩
   ·intro d hd' d2 hd2
    obtain ⟨p1,_,rfl⟩:=List.mem_map.mp hd'
    obtain ⟨p2,_,rfl⟩:=List.mem_map.mp hd2
    exact Orderly.al (enc:=Gr.tEnc) _ _
   ·rw [hla2,List.length_map]; omega
   ·have:=q H9 ((h2.trans h6).trans h9)
    rw [groveD,e1,Bool.true_and,Gr.encs_ps,exp0_pEnc] at this
    exact this
abbrev N_are_pairs:List Str:=["things","thing"]
theorem sc_are_grove_pairs:FnScope N_are_pairs ["things"] (defScope s_are_grove_pairs):=⟨rfl,rfl,rfl,by decide +kernel,rfl,by decide +kernel,by decide +kernel⟩
theorem none_are_grove_pairs {ps:List Str} {tp:Bool} {k:Nat}:FnOk P w K mg base CX0 k f fd ps (spPairsQ K tp 0):=none_sp fun vs H Q E ⟨a,xs,ds,_,_,_,h,_⟩=>by omega
theorem grPs_all:∀ ds:List PyData,grPs ds=ds.all grP
 | []=>by rw [grPs]; rfl
 | d::ds=>by rw [grPs,grPs_all ds]; rfl
theorem ok_are_grove_pairs {n:Nat} (B:BI mg) (GM:Got P w K mg base "is_many" ["thing"] 2 (spMany K [])) (G:Got P w K mg base "is_tree" ["thing"] (n+3) (spIsTree K n)) (F:Fun K "are_grove_pairs" "are_grove_pairs" s_are_grove_pairs f fd) :
  FnOk P w K mg base CX0 (n+4) f fd ["things"] (spPairsQ K true (n+1)):=by
 refine F.ok sc_are_grove_pairs (fun vs H Q E h=>?_) (fun cdv A outer s H vs Q E hr h=>?_)
 ·obtain ⟨a,xs,ds,rfl,_⟩:=h
  rfl
 obtain ⟨a,xs,ds,rfl,hs,ha,hd,h79,hw,q⟩:=h
 refine ⟨_,pss_cons (ps_for PassesOwn.never rfl (pi_tup (pv 0)) (pg_name (i:=1) sc_are_grove_pairs.nd rfl (.inl rfl))
   (pss_cons (ps_if (PW.pt (pw_or (pt_not (pt_val (pe_isi B (pv 1) B.tuple boot_tuple))) (pw_or1 (pt_cmpR op_ne (pe_callB call_len_seq rfl B.len PySem.boot_len (pa_cons (pv 1) pa_nil)) pe_int (nomark _))))) (pss_one (ps_ret pe_bl)) pss_nil)
   (pss_one (ps_if (PW.pt (pw_or (pt_not (pt_val (pe_got G hr rfl (pa_cons (pe_ix ix_tup (pv 1) pe_int (fun _ _=>rfl)) pa_nil)))) (pw_or1 (pt_not (pt_val (pe_got GM (hr.mono (by omega)) rfl (pa_cons (pe_ix ix_tup (pv 1) pe_int (fun _ _=>rfl)) pa_nil))))))) (pss_one (ps_ret pe_bl)) pss_nil))))
  (pss_one (ps_ret pe_bl)),?_⟩
 have hs:SqT K H a xs:=by simpa using hs
 have hl:=TgAll.length ha
 rw [wide_tuple] at hw
 refine ⟨_,rfl,a,rfl,⟨xs,hs⟩,?_⟩
 refine for_tup (K:=K) (a:=a) (xs:=xs) (fun i σ H2=>SB [] H H2/\(∃ o,σ=[some (.ref a),o])/\(ds.take i).all grP=true) ⟨SB.refl,⟨none,rfl⟩,by simp⟩ (fun i σ H2 hi h2=>h2.1.sqT hs) (fun i x σ H2 hx h2=>?_) (fun σ H2 h2=>?_)
 ·obtain ⟨h2,⟨o,rfl⟩,h3⟩:=h2
  obtain ⟨dx,ex,tx⟩:=TgAll.get ha hx
  have mx:=List.mem_of_getElem? ex
  have m1:=depthAll_get ex
  have m2:=wide_mem _ _ mx
  have no:grP dx=false->∀ H',SB [] H2 H'->Q (.bl false) H':=fun e H' s'=>by
   have:=q H' (h2.trans s')
   have e2:grPs ds=false:=by
    rw [grPs_all,List.all_eq_false]
    exact ⟨dx,mx,by rw [e]; exact Bool.false_ne_true⟩
   rw [e2] at this
   exact this
  obtain ⟨n1,b,ty,kb,y1,y2⟩:=(Tg_sb h2 tx).ty
  refine ⟨_,rfl,_,_,n1,b,rfl,ty,kb,b,rfl,?_⟩
  cases b with
  | false =>
   refine iteT (iteT (no ?_ _ SB.refl))
   cases dx with
   | tuple ds=>exact absurd rfl (y2 rfl ds)
   | _=>simp [grP]
  | true =>
  refine iteF ?_
  obtain ⟨b1,ys,es,rfl,rfl,hs1,ha1⟩:=y1 rfl
  refine ⟨_,rfl,b1,ys,rfl,.inr hs1,rfl,_,rfl,?_⟩
  have hl1:=TgAll.length ha1
  by_cases c2:ys.length=2
  ·rw [show (!decide (V.int (ys.length:Nat)=V.int 2))=false by rw [c2]; rfl]
   refine iteF ?_
   cases ha1 with
   | nil=>simp at c2
   | cons t1 ta =>
    cases ta with
    | nil=>simp at c2
    | cons t2 ta =>
     cases ta with
     | cons t3 ta=>simp at c2
     | nil =>
      rename_i v1 d1 v2 d2
      have q1:d1.depth < PyData.depth (.tuple [d1,d2]):=by simp only [PyData.depth,PyData.depthAll]; omega
      have q2:wide d1<=wide (.tuple [d1,d2]):=by simp only [wide,wides]; omega
      refine ⟨_,rfl,b1,_,_,_,rfl,rfl,hs1,atI_nat (j:=0) rfl,v1,d1,rfl,t1,by omega,by omega,by omega,fun H3 h3'=>?_⟩
      refine ⟨_,rfl,?_⟩
      cases e1:treeD d1 with
      | false=>exact iteT (iteT (no (by simp [grP,grP2,e1]) _ h3'))
      | true =>
       refine iteF ?_
       refine ⟨_,rfl,b1,_,_,_,rfl,rfl,h3'.sqT hs1,atI_nat (j:=1) rfl,v2,strip d2,rfl,(Tg_sb h3' t2).th,_,rfl,?_⟩
       rw [many_strip]
       have e:grP (.tuple [d1,d2])=manyD d2:=by simp [grP,grP2,ladP3,e1]
       cases e2:manyD d2 with
       | false=>exact iteT (no (by rw [e,e2]) _ h3')
       | true =>
        refine iteF ⟨h2.trans h3',⟨_,rfl⟩,?_⟩
        rw [List.take_add_one,ex,List.all_append,h3]
        simp [e,e2]
  ·rw [show (!decide (V.int (ys.length:Nat)=V.int 2))=true by rw [decide_eq_false (fun z=>by injection z with z; omega)]; rfl]
   refine iteT (no ?_ _ SB.refl)
   cases e:grP (.tuple es) with
   | false=>rfl
   | true =>
    obtain ⟨t,i,e2,_⟩:=grP_enc _ e
    injection e2 with e2
    rw [e2] at hl1
    exact absurd hl1 c2
 ·obtain ⟨h2,⟨o,rfl⟩,h3⟩:=h2
  rw [hl,List.take_length,<- grPs_all] at h3
  have:=q H2 h2
  rw [h3] at this
  exact this
theorem ok_are_grove_pairsL {n:Nat} (B:BI mg) (GM:Got P w K mg base "is_many" ["thing"] 2 (spMany K [])) (G:Got P w K mg base "is_tree" ["thing"] (n+3) (spIsTree K n)) (F:Fun K "are_grove_pairs" "are_grove_pairs" s_are_grove_pairs f fd) :
  FnOk P w K mg base CX0 (n+4) f fd ["things"] (spPairsQ K false (n+1)):=by
 refine F.ok sc_are_grove_pairs (fun vs H Q E h=>?_) (fun cdv A outer s H vs Q E hr h=>?_)
 ·obtain ⟨a,xs,ds,rfl,_⟩:=h
  rfl
 obtain ⟨a,xs,ds,rfl,hs,ha,hd,h79,hw,q⟩:=h
 refine ⟨_,pss_cons (ps_for PassesOwn.never rfl (pi_list (pv 0)) (pg_name (i:=1) sc_are_grove_pairs.nd rfl (.inl rfl))
   (pss_cons (ps_if (PW.pt (pw_or (pt_not (pt_val (pe_isi B (pv 1) B.tuple boot_tuple))) (pw_or1 (pt_cmpR op_ne (pe_callB call_len_seq rfl B.len PySem.boot_len (pa_cons (pv 1) pa_nil)) pe_int (nomark _))))) (pss_one (ps_ret pe_bl)) pss_nil)
   (pss_one (ps_if (PW.pt (pw_or (pt_not (pt_val (pe_got G hr rfl (pa_cons (pe_ix ix_tup (pv 1) pe_int (fun _ _=>rfl)) pa_nil)))) (pw_or1 (pt_not (pt_val (pe_got GM (hr.mono (by omega)) rfl (pa_cons (pe_ix ix_tup (pv 1) pe_int (fun _ _=>rfl)) pa_nil))))))) (pss_one (ps_ret pe_bl)) pss_nil))))
  (pss_one (ps_ret pe_bl)),?_⟩
 have hs:SqL K H a xs:=by simpa using hs
 have hl:=TgAll.length ha
 rw [wide_tuple] at hw
 refine ⟨_,rfl,a,rfl,⟨xs,hs⟩,?_⟩
 refine for_list (K:=K) (a:=a) (xs:=xs) (fun i σ H2=>SB [] H H2/\(∃ o,σ=[some (.ref a),o])/\(ds.take i).all grP=true) ⟨SB.refl,⟨none,rfl⟩,by simp⟩ (fun i σ H2 hi h2=>h2.1.sqL nmn hs) (fun i x σ H2 hx h2=>?_) (fun σ H2 h2=>?_)
 ·obtain ⟨h2,⟨o,rfl⟩,h3⟩:=h2
  obtain ⟨dx,ex,tx⟩:=TgAll.get ha hx
  have mx:=List.mem_of_getElem? ex
  have m1:=depthAll_get ex
  have m2:=wide_mem _ _ mx
  have no:grP dx=false->∀ H',SB [] H2 H'->Q (.bl false) H':=fun e H' s'=>by
   have:=q H' (h2.trans s')
   have e2:grPs ds=false:=by
    rw [grPs_all,List.all_eq_false]
    exact ⟨dx,mx,by rw [e]; exact Bool.false_ne_true⟩
   rw [e2] at this
   exact this
  obtain ⟨n1,b,ty,kb,y1,y2⟩:=(Tg_sb h2 tx).ty
  refine ⟨_,rfl,_,_,n1,b,rfl,ty,kb,b,rfl,?_⟩
  cases b with
  | false =>
   refine iteT (iteT (no ?_ _ SB.refl))
   cases dx with
   | tuple ds=>exact absurd rfl (y2 rfl ds)
   | _=>simp [grP]
  | true =>
  refine iteF ?_
  obtain ⟨b1,ys,es,rfl,rfl,hs1,ha1⟩:=y1 rfl
  refine ⟨_,rfl,b1,ys,rfl,.inr hs1,rfl,_,rfl,?_⟩
  have hl1:=TgAll.length ha1
  by_cases c2:ys.length=2
  ·rw [show (!decide (V.int (ys.length:Nat)=V.int 2))=false by rw [c2]; rfl]
   refine iteF ?_
   cases ha1 with
   | nil=>simp at c2
   | cons t1 ta =>
    cases ta with
    | nil=>simp at c2
    | cons t2 ta =>
     cases ta with
     | cons t3 ta=>simp at c2
     | nil =>
      rename_i v1 d1 v2 d2
      have q1:d1.depth < PyData.depth (.tuple [d1,d2]):=by simp only [PyData.depth,PyData.depthAll]; omega
      have q2:wide d1<=wide (.tuple [d1,d2]):=by simp only [wide,wides]; omega
      refine ⟨_,rfl,b1,_,_,_,rfl,rfl,hs1,atI_nat (j:=0) rfl,v1,d1,rfl,t1,by omega,by omega,by omega,fun H3 h3'=>?_⟩
      refine ⟨_,rfl,?_⟩
      cases e1:treeD d1 with
      | false=>exact iteT (iteT (no (by simp [grP,grP2,e1]) _ h3'))
      | true =>
       refine iteF ?_
       refine ⟨_,rfl,b1,_,_,_,rfl,rfl,h3'.sqT hs1,atI_nat (j:=1) rfl,v2,strip d2,rfl,(Tg_sb h3' t2).th,_,rfl,?_⟩
       rw [many_strip]
       have e:grP (.tuple [d1,d2])=manyD d2:=by simp [grP,grP2,ladP3,e1]
       cases e2:manyD d2 with
       | false=>exact iteT (no (by rw [e,e2]) _ h3')
       | true =>
        refine iteF ⟨h2.trans h3',⟨_,rfl⟩,?_⟩
        rw [List.take_add_one,ex,List.all_append,h3]
        simp [e,e2]
  ·rw [show (!decide (V.int (ys.length:Nat)=V.int 2))=true by rw [decide_eq_false (fun z=>by injection z with z; omega)]; rfl]
   refine iteT (no ?_ _ SB.refl)
   cases e:grP (.tuple es) with
   | false=>rfl
   | true =>
    obtain ⟨t,i,e2,_⟩:=grP_enc _ e
    injection e2 with e2
    rw [e2] at hl1
    exact absurd hl1 c2
 ·obtain ⟨h2,⟨o,rfl⟩,h3⟩:=h2
  rw [hl,List.take_length,<- grPs_all] at h3
  have:=q H2 h2
  rw [h3] at this
  exact this
theorem sc_pairs_within:FnScope ["grove","found","pair"] ["grove"] (defScope s_pairs_within):=⟨rfl,rfl,rfl,by decide +kernel,rfl,by decide +kernel,by decide +kernel⟩
theorem ok_pairs_within {n:Nat} (G:Got P w K mg base "pairs_within" ["grove"] n (spPairsW K n)) (F:Fun K "pairs_within" "pairs_within" s_pairs_within f fd):FnOk P w K mg base CX0 (n+1) f fd ["grove"] (spPairsW K (n+1)):=by
 refine F.ok sc_pairs_within (fun vs H Q E h=>?_) (fun cdv A outer s H vs Q E hr h=>?_)
 ·obtain ⟨v,g,rfl,_⟩:=h
  rfl
 obtain ⟨v,g,rfl,hg,hd,hp,q⟩:=h
 refine ⟨_,pss_cons (ps_set (i:=1) sc_pairs_within.nd rfl (.inl rfl) (pe_lst pa_nil))
  (pss_cons (ps_for PassesOwn.never rfl (pi_tup (pv 0)) (pg_name (i:=2) sc_pairs_within.nd rfl (.inl rfl))
   (pss_cons (ps_expr (pe_bm PySem.F.plainAttrs_list PySem.F.slot_list_append PySem.F.type_list_append mt_append (pv 1) (pa_cons (pv 2) pa_nil)))
   (pss_one (ps_expr (pe_bm PySem.F.plainAttrs_list PySem.F.slot_list_extend PySem.F.type_list_extend mt_extend (pv 1) (pa_cons (pe_got G hr rfl (pa_cons (pe_ix ix_tup (pe_ix ix_tup (pv 2) pe_int (fun _ _=>rfl)) pe_int (fun _ _=>rfl)) pa_nil)) pa_nil))))))
  (pss_one (ps_ret (pv 1)))),?_⟩
 obtain ⟨a,xs,rfl,hs,hb⟩:=GA_bears hg
 have bl:=hb.length
 have wl:=g.within_length
 refine ⟨(by show 0<=sizeLine; decide),fun D hD=>?_⟩
 refine ⟨_,rfl,a,rfl,⟨xs,(SB.new (ps:=[]) hD _).sqT hs⟩,?_⟩
 refine for_it (walk_tup (xs:=xs)) (fun i σ H2=>SB [D] H H2/\∃ us o2,σ=[some (.ref a),some (.ref D),o2]/\H2 D=some (.lst us)/\Bears K H2 Gr.pEnc us ((g.ps.take i).flatMap fun p=>p::p.1.2.within)) ⟨SB.new hD _,[],none,rfl,upd_same,.nil⟩ (fun i σ H2 hi h2=>(h2.1.drop hD).sqT hs) (fun i x σ H2 H' hi h2 y=>?_) (fun σ H2 h2=>?_)
 ·obtain ⟨s2,us,o2,rfl,hD2,hb2⟩:=h2
  obtain ⟨rfl,ex⟩:=y
  obtain ⟨p,ep,hpd⟩:=hb.get ex
  have pm:=List.mem_of_getElem? ep
  obtain ⟨ad,td,ux,rfl,hs2,hs3,hga,_⟩:=PA_parts hpd
  have s2':=s2.drop hD
  have ul:=hb2.length
  have hsplit:(g.ps.take (i+1)).flatMap (fun p=>p::p.1.2.within)=(g.ps.take i).flatMap (fun p=>p::p.1.2.within)++(p::p.1.2.within):=by rw [List.take_add_one,ep]; simp
  have hle:((g.ps.take i).flatMap (fun p=>p::p.1.2.within)).length+(p.1.2.within.length+1)<=200000:=by
   have h1:g.within=(g.ps.take (i+1)).flatMap (fun p=>p::p.1.2.within)++(g.ps.drop (i+1)).flatMap (fun p=>p::p.1.2.within):=by rw [Gr.within_ps,<- List.flatMap_append,List.take_append_drop]
   have h2:=congrArg List.length h1
   rw [hsplit,List.length_append,List.length_append,List.length_cons,wl] at h2
   omega
  refine ⟨_,rfl,.inl ⟨rfl,_,SqL.of hD2⟩,_,rfl,D,us,_,rfl,rfl,hD2,small5 (by omega),?_⟩
  have t3:=SB.set (ps:=[D]) hD2 (by simp) (.lst (us++[.ref ad]))
  have hD3:(upd H' D (.lst (us++[.ref ad]))) D=some (.lst (us++[.ref ad])):=upd_same
  have hb3:=Bears.append (hb2.sb t3 Gr.noList_pEnc) (.cons (Dp_sb (s2.trans t3) _ _ (Gr.noList_pEnc _) hpd) .nil)
  have s3:=s2.trans t3
  have s3':=s3.drop hD
  generalize hH3:upd H' D (.lst (us++[.ref ad]))=H3 at t3 hD3 hb3 s3 s3'
  have pd:=g.mem_deep p pm
  have pp:=g.mem_parts p pm
  refine ⟨_,rfl,.inl ⟨rfl,_,SqL.of hD3⟩,_,rfl,ad,_,_,_,rfl,rfl,s3'.sqT hs2,atI_nat (j:=0) rfl,td,_,_,_,rfl,rfl,s3'.sqT hs3,atI_nat (j:=1) rfl,ux,p.1.2,rfl,hga.sb s3',by omega,by omega,fun D2 vs2 H4 s4 hDn hD4 hb4=>?_⟩
  have hD4':=s4.keep _ _ hD3 nmn
  have vl:=hb4.length
  refine ⟨D,D2,_,_,rfl,rfl,hD4',hD4,?_,?_⟩
  ·rw [List.length_append,List.length_singleton]
   have:1000000<=sizeLine:=by decide
   omega
  have t5:=SB.set (ps:=[D]) hD4' (by simp) (.lst (us++[.ref ad]++vs2))
  refine ⟨(s3.trans s4.nil).trans t5,_,_,rfl,upd_same,?_⟩
  rw [hsplit,show ((g.ps.take i).flatMap (fun p=>p::p.1.2.within)++(p::p.1.2.within))=(g.ps.take i).flatMap (fun p=>p::p.1.2.within)++[p]++p.1.2.within by simp]
  exact Bears.append ((hb3.sb s4 Gr.noList_pEnc).sb t5 Gr.noList_pEnc) (hb4.sb t5 Gr.noList_pEnc)
 ·obtain ⟨s2,us,o2,rfl,hD2,hb2⟩:=h2
  rw [bl,List.take_length,<- Gr.within_ps] at hb2
  exact ⟨_,rfl,q D us H2 (s2.drop hD) hD hD2 hb2⟩
abbrev N_kinds_within:List Str:=["grove","tree","many"]
theorem sc_kinds_within:FnScope N_kinds_within ["grove"] (defScope s_kinds_within):=⟨rfl,rfl,rfl,by decide +kernel,rfl,by decide +kernel,by decide +kernel⟩
theorem ok_kinds_within (B:BI mg) (G_pairs_within:Got P w K mg base "pairs_within" ["grove"] (70) (spPairsW K 70)) (F:Fun K "kinds_within" "kinds_within" s_kinds_within f fd):FnOk P w K mg base CX0 (71) f fd ["grove"] (spKindsF K):=by
 refine F.ok sc_kinds_within (fun vs H Q E h=>?_) (fun cdv A outer s H vs Q E hr h=>?_)
 ·obtain ⟨v,g,ns,rfl,_⟩:=h
  rfl
 obtain ⟨v,g,ns,rfl,hv,hd,hp,hk,hn,q⟩:=h
 have hun2:=hunT hr
 refine ⟨_,pss_one (ps_ret (pe_callB (cr_sortedTx rfl) rfl B.sorted (by decide +kernel) (pa_cons (pe_scS (own:=[("tree",1),("many",2)]) (g:=(gTup K 2 (gCons (gName 1) (gCons (gName 2) gNil)))) (tt:=tYes) (te:=(tOp (rIxT K) (tVar 1) (tC (.int 0)))) rfl sc_kinds_within.nd (pi_list (pe_got G_pairs_within (hr.mono (by omega)) rfl (pa_cons (pv 0) pa_nil))) (blkOk_by (N:=N_kinds_within) (sc:=defScope s_kinds_within) (by decide +kernel)) (fun _ _ _ _ _=>(pg_tup rfl (pgs_cons (pg_name (i:=1) sc_kinds_within.nd rfl (.inl rfl)) (pgs_cons (pg_name (i:=2) sc_kinds_within.nd rfl (.inl rfl)) pgs_nil)))) (fun _ _ _ _ _=>pts_nil) (fun _ _ _ _ _=>(pe_ix ix_tup (pv 1) pe_int (fun _ _=>rfl)))) pa_nil))),?_⟩
 have scb:3001 < scanBound:=by decide +kernel
 have wl:=g.within_length
 refine ⟨_,rfl,v,g,rfl,hv,by omega,by omega,fun ll us H1 s1 nll hll hbl=>?_⟩
 have ul:=hbl.length
 refine ⟨ll,rfl,⟨_,SqL.of hll⟩,fun D nD=>?_⟩
 refine sc_seq (walk_list (xs:=us)) nD (by omega) (fun i ss H2=>ss.Nodup/\∀ x,x ∈ ss ↔ x ∈ (g.within.take i).map fun p:Tr × Int=>p.1.1) ⟨List.nodup_nil,by simp⟩ (fun H2 s2=>s2.sqL nmn (SqL.of hll)) (fun _ _ _ _ _ h=>h) (fun Pv i x Hq H2 ss hi s2 y hR hl fin _=>?_) (fun ss H2 s2 hD2 hR hl=>?_)
 ·obtain ⟨rfl,ey⟩:=y
  obtain ⟨p,ep,hpd⟩:=hbl.get ey
  obtain ⟨ad,td,ux,rfl,hs2,hs3,hga,_⟩:=PA_parts hpd
  refine ⟨ad,_,rfl,s2.sqT hs2,rfl,_,_,rfl,_,_,rfl,rfl,rfl,?_⟩
  refine ⟨_,rfl,td,_,_,_,rfl,rfl,s2.sqT hs3,atI_nat (j:=0) rfl,fin p.1.1 _ SB.refl ⟨insS_nodup hR.1,fun x=>?_⟩⟩
  rw [insS_mem,hR.2,List.take_add_one,ep,List.map_append,List.mem_append]
  simp [or_comm]
 ·rw [ul,List.take_length] at hR
  have sl:ss.length<=60:=by
   have:=hR.1.length_le_of_subset (l₂:=ns) fun x hx=>by
    obtain ⟨p,hp,e⟩:=List.mem_map.mp ((hR.2 x).mp hx)
    rw [<- e]; exact hk p hp
   omega
  refine ⟨D,ss,rfl,hD2,by omega,fun ss' p pm srt np=>?_⟩
  have t3:=SB.new (ps:=[]) np (.lst (ss'.map V.str))
  exact q p ss' _ ((s1.trans s2).trans t3) ((s1.trans s2).dom _ np) upd_same (.perm pm srt hR.1 hR.2) (by rw [pm.length_eq]; omega)
abbrev N_rules_from_nought:List Str:=["book","name"]
theorem sc_rules_from_nought:FnScope N_rules_from_nought ["book","name"] (defScope s_rules_from_nought):=⟨rfl,rfl,rfl,by decide +kernel,rfl,by decide +kernel,by decide +kernel⟩
theorem ok_rules_from_nought {C_NO_GROVES C_Book C_NoKind:Addr} (B:BI mg) (V_NO_GROVES:mg "NO_GROVES"=some (.ref C_NO_GROVES)) (W_NO_GROVES:∀ H,Dp K H (.ref C_NO_GROVES) (Ru.enc (.nil,.nil))) (G_Book_rules:GotMX P w K mg base C_Book "rules" ["self","name"] (4) (spBRules K C_Book C_NoKind)) (F:Fun K "rules_from_nought" "rules_from_nought" s_rules_from_nought f fd):FnOk P w K mg base (L2.CX P w) (5) f fd ["book","name"] (spRulesN K C_Book C_NoKind):=by
 refine F.okX sc_rules_from_nought (fun vs H Q E h=>?_) (fun cdv A outer s H vs Q E hr h=>?_)
 ·obtain ⟨v,b,n,rfl,_⟩:=h
  rfl
 obtain ⟨v,b,n,rfl,hb,hl,hr4,qk,qE⟩:=h
 have hun2:=hunT hr
 refine ⟨_,pss_one (ps_ret (pe_op op_cat (pe_lst (pa_cons (pe_glob (v:=.ref C_NO_GROVES) rfl V_NO_GROVES rfl) pa_nil)) (pe_gotMS G_Book_rules (hr.mono (by omega)) (takes_of rfl rfl rfl rfl) (pv 0) (pa_cons (pv 1) pa_nil)))),?_⟩
 have szl:=sizeLine_eq
 obtain ⟨va,vdx,vd1,vd2,rfl,hva⟩:=hb.at
 refine ⟨by show 1<=sizeLine; decide,fun L hL=>?_⟩
 have t1:=SB.new (ps:=[]) hL (.lst [.ref C_NO_GROVES])
 have hL1:upd H L (.lst [.ref C_NO_GROVES]) L=some (.lst [.ref C_NO_GROVES]):=upd_same
 generalize upd H L (.lst [.ref C_NO_GROVES])=H1 at t1 hL1
 refine ⟨_,rfl,va,vdx,_,rfl,t1.keep _ _ hva nmn,rfl,_,rfl,_,b,n,rfl,hb.sb0 t1,hl,hr4,fun k eg ll us H2 s2 nll hll hbl=>?_,fun z d H' s' nd hd=>qE z d H' (t1.trans s') (t1.dom d nd) hd⟩
 have k4:=hr4 k (Bk.get_some eg).1
 have ul:=hbl.length
 refine ⟨L,ll,_,_,rfl,rfl,s2.keep _ _ hL1 nmn,hll,by show 1+_<=sizeLine; omega,fun M hM=>?_⟩
 have t3:=SB.new (ps:=[]) hM (.lst ([.ref C_NO_GROVES]++us))
 have s3:=t1.trans s2
 exact qk k eg M _ _ (s3.trans t3) (s3.dom _ hM) upd_same (.cons (W_NO_GROVES _) (hbl.sb t3 Ru.noList_enc))
abbrev N_check_kind:List Str:=["book","name"]
theorem sc_check_kind:FnScope N_check_kind ["book","name"] (defScope s_check_kind):=⟨rfl,rfl,rfl,by decide +kernel,rfl,by decide +kernel,by decide +kernel⟩
theorem ok_check_kind {C_NoKind C_Book:Addr} (B:BI mg) (O_NoKind:OwnI P w K mg base "NoKind" C_NoKind 1) (G_Book_names:GotM P w K mg base C_Book "names" ["self"] (1) (spBNames K C_Book)) (F:Fun K "check_kind" "check_kind" s_check_kind f fd):FnOk P w K mg base (L2.CX P w) (3) f fd ["book","name"] (spCheckK K C_Book C_NoKind):=by
 refine F.okX sc_check_kind (fun vs H Q E h=>?_) (fun cdv A outer s H vs Q E hr h=>?_)
 ·obtain ⟨v,b,n,rfl,_⟩:=h
  rfl
 obtain ⟨v,b,n,rfl,hb,hl,qk,qE⟩:=h
 have hun2:=hunT hr
 refine ⟨_,pss_one (ps_if (pt_cmpR op_notIn_seq (pv 1) (pe_gotM0 G_Book_names (hr.mono (by omega)) (pv 0)) (by rfl)) (pss_one (ps_raise rfl (takes_of rfl rfl rfl rfl) (pmk_kind O_NoKind (hr.mono (by omega)) rfl (pv 1)))) pss_nil),?_⟩
 obtain ⟨a,dx,d1,d2,rfl,h1⟩:=hb.at
 refine ⟨_,rfl,_,rfl,a,dx,_,rfl,h1,rfl,?_⟩
 refine ⟨_,b,rfl,hb,hl,fun l H1 s1 hn hl1=>?_⟩
 refine ⟨l,_,rfl,.inl (SqL.of hl1),rfl,flat_strs _,_,rfl,?_⟩
 rw [inV_strs,Bk.get_isSome]
 cases e:b.get n with
 | some k=>exact qk k e H1 s1
 | none=>exact ⟨_,rfl,fun d hd=>qE e d _ (s1.trans (SB.new hd _)) (s1.dom d hd) upd_same⟩
abbrev N_check_kinds:List Str:=["book","grove","kind"]
theorem sc_check_kinds:FnScope N_check_kinds ["book","grove"] (defScope s_check_kinds):=⟨rfl,rfl,rfl,by decide +kernel,rfl,by decide +kernel,by decide +kernel⟩
theorem ok_check_kinds {C_Book C_NoKind:Addr} (B:BI mg) (G_kinds_within:Got P w K mg base "kinds_within" ["grove"] (71) (spKindsF K)) (G_check_kind:GotX P w K mg base "check_kind" ["book","name"] (3) (spCheckK K C_Book C_NoKind)) (F:Fun K "check_kinds" "check_kinds" s_check_kinds f fd):FnOk P w K mg base (L2.CX P w) (72) f fd ["book","grove"] (spCheckKX K C_Book C_NoKind):=by
 refine F.okX sc_check_kinds (fun vs H Q E h=>?_) (fun cdv A outer s H vs Q E hr h=>?_)
 ·obtain ⟨v,w,b,g,ns,rfl,_⟩:=h
  rfl
 obtain ⟨v,w,b,g,ns,rfl,hv,hg,hl,hd,hp,hk,hn,q,qE⟩:=h
 have hun2:=hunT hr
 refine ⟨_,pss_one (ps_for (passes_of rfl) rfl (pi_list (pe_got G_kinds_within (hr.mono (by omega)) rfl (pa_cons (pv 1) pa_nil))) (pg_name (i:=2) sc_check_kinds.nd rfl (.inl rfl))
   (pss_one (ps_expr (pe_gotS G_check_kind (hr.mono (by omega)) rfl (takes_of rfl rfl rfl rfl) (pa_cons (pv 0) (pa_cons (pv 2) pa_nil)))))),?_⟩
 refine ⟨_,rfl,w,g,ns,rfl,hg,hd,hp,hk,hn,fun l ss H1 s1 nl hls so sl=>?_⟩
 refine ⟨l,rfl,⟨_,SqL.of hls⟩,?_⟩
 refine for_it (walk_list (xs:=ss.map V.str)) (fun i σ H2=>SB [] H1 H2/\(∀ m ∈ ss.take i,¬ (m ∉ b.names))/\∃ o2,σ=[some v,some w,o2]) ⟨SB.refl,by simp,none,rfl⟩ (fun i σ H2 hi h2=>h2.1.sqL nmn (SqL.of hls)) (fun i x σ Hq H2 hi h2 y=>?_) (fun σ H2 h2=>?_)
 ·obtain ⟨s2,bef,o2,rfl⟩:=h2
  obtain ⟨rfl,ey⟩:=y
  rw [List.getElem?_map] at ey
  obtain ⟨k,ek,rfl⟩:=Option.map_eq_some_iff.mp ey
  have s02:=s1.trans s2
  refine ⟨_,rfl,_,rfl,v,b,k,rfl,hv.sb0 s02,by omega,fun kd e H3 s3=>⟨s2.trans s3,fun m hm=>?_,_,rfl⟩,fun z d H3 s3 nd hd3=>qE k (.at so ek (fun hm=>?_) bef) d H3 (s02.trans s3) (s02.dom _ nd) hd3⟩
  ·rw [List.take_add_one,ek] at hm
   rcases List.mem_append.mp hm with z | z
   ·exact bef m z
   ·rw [List.mem_singleton.mp z]
    exact fun z=>z (List.mem_map.mpr ⟨kd,(Bk.get_some e).1,(Bk.get_some e).2⟩)
  ·obtain ⟨kd,e⟩:=Bk.get_of hm
   rw [e] at z; cases z
 ·obtain ⟨s2,bef,o2,rfl⟩:=h2
  rw [List.length_map,List.take_length] at bef
  exact q (fun x hx=>Classical.byContradiction fun z=>bef x.1.1 ((so.mem _).mpr (List.mem_map.mpr ⟨x,hx,rfl⟩)) z) _ (s1.trans s2)
abbrev N_are_kinds:List Str:=["things","thing","names","rule"]
theorem sc_are_kinds:FnScope N_are_kinds ["things"] (defScope s_are_kinds):=⟨rfl,rfl,rfl,by decide +kernel,rfl,by decide +kernel,by decide +kernel⟩
theorem ok_are_kinds (B:BI mg) (L_MOST_KINDS:∃ t,mg "MOST_KINDS"=some (.int (8) t)) (G_is_kind:Got P w K mg base "is_kind" ["thing"] (86) (spIsKind K)) (G_is_rule_of:Got P w K mg base "is_rule_of" ["rule","names"] (71) (spIsRuleOf K)) (F:Fun K "are_kinds" "are_kinds" s_are_kinds f fd):FnOk P w K mg base CX0 (87) f fd ["things"] (spAreKinds K):=by
 refine F.ok sc_are_kinds (fun vs H Q E h=>?_) (fun cdv A outer s H vs Q E hr h=>?_)
 ·obtain ⟨l,xs,ts,rfl,_⟩:=h
  rfl
 obtain ⟨l,xs,ts,rfl,hs,ha,hf,hl,q⟩:=h
 obtain ⟨tk_MOST_KINDS,h_MOST_KINDS⟩:=L_MOST_KINDS
 have hun2:=hunT hr
 refine ⟨_,pss_cons (ps_if (pt_not (pt_chain op_le op_le pe_int (pe_callB call_len_seq rfl B.len PySem.boot_len (pa_cons (pv 0) pa_nil)) (pe_glob (v:=.int (8)) rfl h_MOST_KINDS ⟨_,rfl⟩))) (pss_one (ps_ret pe_bl)) pss_nil)
  (pss_cons (ps_for PassesOwn.never rfl (pi_list (pv 0)) (pg_name (i:=1) sc_are_kinds.nd rfl (.inl rfl))
   (pss_one (ps_if (pt_not (pt_val (pe_got G_is_kind (hr.mono (by omega)) rfl (pa_cons (pv 1) pa_nil)))) (pss_one (ps_ret pe_bl)) pss_nil)))
  (pss_cons (ps_set (i:=2) sc_are_kinds.nd rfl (.inr rfl) (pe_lc (own:=[("thing",1)]) (g:=(gName 1)) (tt:=tYes) (te:=(tOp (rIxT K) (tVar 1) (tC (.int 0)))) rfl sc_are_kinds.nd (pi_list (pv 0)) (blkOk_by (N:=N_are_kinds) (sc:=defScope s_are_kinds) (by decide +kernel)) (fun _ _ _ _ _=>(pg_name (i:=1) sc_are_kinds.nd rfl (.inl rfl))) (fun _ _ _ _ _=>pts_nil) (fun _ _ _ _ _=>(pe_ix ix_tup (pv 1) pe_int (fun _ _=>rfl)))))
  (pss_cons (ps_if (pt_cmpR op_ne (pe_lenSetS rfl B rfl rfl (pv 2)) (pe_callB call_len_seq rfl B.len PySem.boot_len (pa_cons (pv 2) pa_nil)) (nomark _)) (pss_one (ps_ret pe_bl)) pss_nil)
  (pss_one (ps_ret (pe_callB (cr_all rfl) rfl B.all boot_all (pa_cons (pe_lc2 (own:=[("thing",1),("rule",3)]) (vs1:=[3]) (wi1:=(iList K (tOp (rIxT K) (tVar 1) (tC (.int 2))))) (g:=(gName 1)) (g1:=(gName 3)) (tt:=tYes) (tt1:=tYes) (te:=(tCall (spIsRuleOf K) [] E0 (tCons (tVar 3) (tCons (tVar 2) tNil)))) rfl sc_are_kinds.nd (pi_list (pv 0)) (blkOk_by (N:=N_are_kinds) (sc:=defScope s_are_kinds) (by decide +kernel)) (by simp) (fun _ _ _ _ _=>(pg_name (i:=1) sc_are_kinds.nd rfl (.inl rfl))) (fun _ _ _ _ _=>pts_nil) (fun _ _ _ _ _=>(pi_list (pe_ix ix_tup (pv 1) pe_int (fun _ _=>rfl)))) (fun _ _ _ _ _=>(pg_name (i:=3) sc_are_kinds.nd rfl (.inl rfl))) (fun _ _ _ _ _=>pts_nil) (fun _ _ _ _ _=>(pe_got G_is_rule_of (hr.mono (by omega)) rfl (pa_cons (pv 3) (pa_cons (pv 2) pa_nil))))) pa_nil))))))),?_⟩
 have no:¬ KTBk ts->∀ H',SB [] H H'->Q (.bl false) H':=fun e H' s'=>q false H' s' ⟨(fun z=>nomatch z),fun z=>absurd z e⟩
 have xlen:=ha.length
 have szl:=sizeLine_eq
 refine ⟨_,rfl,l,xs,rfl,.inl hs,_,_,rfl,rfl,_,rfl,?_⟩
 refine ite2 (fun c=>?_) (fun c=>?_)
 ·have c1:=of_decide_eq_true c
  refine ⟨_,_,rfl,rfl,_,rfl,?_⟩
  cases c8:decide (((xs.length:Nat):Int)<=8) with
  | false =>
   have c2:=of_decide_eq_false c8
   refine iteT (no ?_ _ SB.refl)
   rintro ⟨b,e,ok⟩
   have:=ok.len
   rw [e,List.length_map] at xlen
   omega
  | true =>
  refine iteF ?_
  have c2:=of_decide_eq_true c8
  refine ⟨_,rfl,l,rfl,⟨xs,hs⟩,?_⟩
  refine for_list (K:=K) (a:=l) (xs:=xs) (fun i σ H2=>SB [] H H2/\(∃ o,σ=[some (.ref l),o,none,none])/\∀ t ∈ ts.take i,KTKd t) ⟨SB.refl,⟨none,rfl⟩,by simp⟩ (fun i σ H2 hi h2=>h2.1.sqL nmn hs) (fun i x σ H2 hx h2=>?_) (fun σ H2 h2=>?_)
  ·obtain ⟨h2,⟨o,rfl⟩,h3⟩:=h2
   obtain ⟨t,et,ht⟩:=ha.get hx
   have mt:=List.mem_of_getElem? et
   refine ⟨_,rfl,x,t,rfl,KTA_sb h2 ht,hf t mt,fun b H3 s3 hb=>?_⟩
   refine ⟨_,rfl,?_⟩
   cases b with
   | false =>
    refine iteT (no ?_ _ (h2.trans s3))
    rintro ⟨bk,e,ok⟩
    rw [e] at mt
    obtain ⟨k,hk,rfl⟩:=List.mem_map.mp mt
    obtain ⟨o1,o2,o3⟩:=ok.kd k hk
    exact nomatch hb.mpr ⟨k,rfl,o1,o2,fun r hr=>(o3 r hr).1⟩
   | true =>
    refine iteF ⟨h2.trans s3,⟨_,rfl⟩,fun t' ht'=>?_⟩
    rw [List.take_add_one,et,Option.toList_some] at ht'
    rcases List.mem_append.mp ht' with h | h
    ·exact h3 t' h
    ·rw [List.mem_singleton.mp h]; exact hb.mp rfl
  ·obtain ⟨h2,⟨o,rfl⟩,h3⟩:=h2
   rw [xlen,List.take_length] at h3
   obtain ⟨bk,et,hk⟩:=KT_all h3
   subst et
   rw [List.length_map] at xlen
   have ha2:=(ha.sb h2).kd
   have hs2:=h2.sqL nmn hs
   refine ⟨_,rfl,l,rfl,⟨xs,hs2⟩,fun D hD=>?_⟩
   refine lc_seq (walk_list (xs:=xs)) hD (by omega) (fun i us _=>us=((Bk.names bk).take i).map V.str) rfl (fun H6 s6=>s6.sqL nmn hs2) (fun _ _ _ _ _ h=>h) (fun Pv i x H6 H' us hi s6 y hR hl6 fin _=>?_) (fun us H6 s6 hD6 hR _=>?_)
   ·obtain ⟨rfl,ex⟩:=y
    obtain ⟨k,ek,t,r,zs,rfl,g1,g2,g3,_⟩:=ha2.get ex
    refine ⟨rfl,_,rfl,t,_,_,_,rfl,rfl,s6.sqT g1,atI_nat (j:=0) rfl,fin _ _ SB.refl ?_⟩
    rw [hR,List.take_add_one,List.getElem?_map,ek,Option.map_some,Option.toList_some,List.map_append]; rfl
   ·rw [xlen,show (Bk.names bk).take bk.length=Bk.names bk by rw [List.take_of_length_le (by simp)]] at hR
    subst hR
    have s06:=h2.trans s6
    refine ⟨_,rfl,D,Bk.names bk,rfl,SqL.of hD6,by rw [List.length_map]; omega,?_⟩
    refine ⟨_,rfl,D,_,rfl,.inl (SqL.of hD6),rfl,_,rfl,?_⟩
    have hnd:=met_len_nodup (Bk.names bk)
    rw [show (List.map V.str (Bk.names bk)).length=(Bk.names bk).length from List.length_map ..]
    by_cases nd:(Bk.names bk).Nodup
    ·rw [hnd.mpr nd,show (!decide (V.int ((Bk.names bk).length:Nat)=V.int ((Bk.names bk).length:Nat)))=false by simp]
     refine iteF ?_
     have ha6:=ha2.sb s6 NoLst.nil
     have hs6:=s6.sqL nmn hs2
     refine ⟨_,rfl,l,rfl,⟨xs,hs6⟩,fun E1 hE1=>?_⟩
     have good:∀ r:Ru,(∃ k ∈ bk,r ∈ k.rs)->RuOk r:=fun r ⟨k,h1,h2⟩=>(hk k h1).2.2 r h2
     refine lcG (walk_list (xs:=xs)) (fun i H2=>SB [E1] H6 H2/\∃ bs:List Bool,H2 E1=some (.lst (bs.map V.bl))/\bs=((bk.take i).flatMap fun k=>k.rs.map fun r=>decide (∀ p ∈ Ru.within r,p.1.1 ∈ Bk.names bk))) ⟨SB.new hE1 _,[],upd_same,rfl⟩ (fun i H2 hi h2=>(h2.1.drop hE1).sqL nmn hs6) (fun i x H2 H' hi h2 y=>?_) (fun H2 h2=>?_)
     ·obtain ⟨s7,bs,hE7,hbs⟩:=h2
      obtain ⟨rfl,ex⟩:=y
      obtain ⟨k,ek,t,r,zs,rfl,g1,g2,g3,_⟩:=ha6.get ex
      have mk:=List.mem_of_getElem? ek
      have zl:=g3.length
      have r4:=(hk k mk).2.1
      have s7':=s7.drop hE1
      refine ⟨rfl,?_⟩
      refine ⟨_,rfl,t,_,_,_,rfl,rfl,s7'.sqT g1,atI_nat (j:=2) rfl,r,rfl,⟨zs,SqL.of (s7'.keep _ _ g2 nmn)⟩,?_⟩
      have hsplit:((bk.take (i+1)).flatMap fun k=>k.rs.map fun r=>decide (∀ p ∈ Ru.within r,p.1.1 ∈ Bk.names bk))=((bk.take i).flatMap fun k=>k.rs.map fun r=>decide (∀ p ∈ Ru.within r,p.1.1 ∈ Bk.names bk))++k.rs.map fun r=>decide (∀ p ∈ Ru.within r,p.1.1 ∈ Bk.names bk):=by rw [List.take_add_one,ek]; simp
      have hlen:bs.length<=4*i:=by
       rw [hbs]
       clear hbs hE7 s7 s7' hsplit ex ek
       induction i with
       | zero=>simp
       | succ i ih =>
        rw [List.take_add_one,List.flatMap_append,List.length_append]
        have:=ih (by omega)
        cases e:bk[i]? with
        | none=>simp only [Option.toList_none,List.flatMap_nil,List.length_nil]; omega
        | some k2 =>
         have:=(hk k2 (List.mem_of_getElem? e)).2.1
         simp only [Option.toList_some,List.flatMap_cons,List.flatMap_nil,List.append_nil,List.length_map]; omega
      refine lcG (walk_list (xs:=zs)) (fun j H3=>SB [E1] H6 H3/\∃ bs2:List Bool,H3 E1=some (.lst (bs2.map V.bl))/\bs2=bs++((k.rs.take j).map fun r=>decide (∀ p ∈ Ru.within r,p.1.1 ∈ Bk.names bk))) ⟨s7,bs,hE7,by simp⟩ (fun j H3 hj h3=>(h3.1.drop hE1).sqL nmn (SqL.of g2)) (fun j x H3 H4 hj h3 y=>?_) (fun H3 h3=>?_)
      ·obtain ⟨s8,bs2,hE8,hbs2⟩:=h3
       obtain ⟨rfl,ex2⟩:=y
       obtain ⟨ru,er,hru⟩:=g3.get ex2
       have s8':=s8.drop hE1
       have mr:=List.mem_of_getElem? er
       refine ⟨rfl,?_⟩
       refine ⟨_,rfl,_,rfl,_,D,ru,Bk.names bk,rfl,Dp_sb s8' _ _ (Ru.noList_enc _) hru,(hk k mk).2.2 ru mr,SqL.of (s8'.keep _ _ hD6 nmn),by rw [List.length_map]; omega,fun H9 s9=>?_⟩
       have hE9:=s9.keep _ _ hE8 nmn
       refine ⟨_,hE9,?_,(s8.trans s9.nil).trans (SB.set hE9 (by simp) _),bs2++[decide (∀ p ∈ Ru.within ru,p.1.1 ∈ Bk.names bk)],(by rw [upd_same,List.map_append]; rfl),?_⟩
       ·rw [List.length_map,hbs2,List.length_append,List.length_map,List.length_take]
        omega
       ·rw [hbs2,List.take_add_one,er,Option.toList_some,List.map_append,<- List.append_assoc]
        exact rfl
      ·obtain ⟨s8,bs2,hE8,hbs2⟩:=h3
       refine ⟨s8,bs2,hE8,?_⟩
       rw [hsplit,hbs2,hbs,zl,List.take_length]
     ·obtain ⟨s7,bs,hE7,hbs⟩:=h2
      rw [xlen,List.take_length] at hbs
      refine ⟨E1,bs,rfl,SqL.of hE7,q _ _ (s06.trans (s7.drop hE1)) ?_⟩
      rw [hbs]
      simp only [List.all_flatMap,List.all_map,List.all_eq_true,Function.comp,id_eq,decide_eq_true_eq]
      constructor
      ·intro h
       exact ⟨bk,rfl,by omega,by omega,nd,fun k mk=>⟨(hk k mk).1,(hk k mk).2.1,fun r mr=>⟨(hk k mk).2.2 r mr,h k mk r mr⟩⟩⟩
      ·rintro ⟨b2,e2,ok⟩ k mk r mr
       have e3:=kts_inj e2
       subst e3
       exact ((ok.kd k mk).2.2 r mr).2
    ·rw [show (!decide (V.int ((met (Bk.names bk) (Bk.names bk).length).length:Nat)=V.int ((Bk.names bk).length:Nat)))=true by
      rw [decide_eq_false (fun z=>by injection z with z; exact nd (hnd.mp (by omega)))]; rfl]
     refine iteT (no ?_ _ s06)
     rintro ⟨b2,e2,ok⟩
     have e3:=kts_inj e2
     subst e3
     exact nd ok.nd
 ·have c1:=of_decide_eq_false (Bool.eq_false_iff.mpr c)
  refine ⟨_,rfl,?_⟩
  refine iteT (no ?_ _ SB.refl)
  rintro ⟨b,e,ok⟩
  have:=ok.pos
  rw [e,List.length_map] at xlen
  omega
abbrev N_is_kind:List Str:=["thing","name","spreading","rows","row"]
theorem sc_is_kind:FnScope N_is_kind ["thing"] (defScope s_is_kind):=⟨rfl,rfl,rfl,by decide +kernel,rfl,by decide +kernel,by decide +kernel⟩
theorem ok_is_kind (B:BI mg) (L_MOST_RULES:∃ t,mg "MOST_RULES"=some (.int (4) t)) (G_is_name:Got P w K mg base "is_name" ["thing"] (2) (spName K)) (G_is_rule:Got P w K mg base "is_rule" ["thing"] (85) (spIsRule K)) (F:Fun K "is_kind" "is_kind" s_is_kind f fd):FnOk P w K mg base CX0 (86) f fd ["thing"] (spIsKind K):=by
 refine F.ok sc_is_kind (fun vs H Q E h=>?_) (fun cdv A outer s H vs Q E hr h=>?_)
 ·obtain ⟨v,t,rfl,_⟩:=h
  rfl
 obtain ⟨v,t,rfl,th,hf,q⟩:=h
 obtain ⟨tk_MOST_RULES,h_MOST_RULES⟩:=L_MOST_RULES
 have hun2:=hunT hr
 refine ⟨_,pss_cons (ps_if (PW.pt (pw_or (pt_not (pt_val (pe_isi B (pv 0) B.tuple boot_tuple))) (pw_or1 (pt_cmpR op_ne (pe_callB call_len_seq rfl B.len PySem.boot_len (pa_cons (pv 0) pa_nil)) pe_int (nomark _))))) (pss_one (ps_ret pe_bl)) pss_nil)
  (pss_cons (ps_asg (pv 0) (pg_tup rfl (pgs_cons (pg_name (i:=1) sc_is_kind.nd rfl (.inl rfl)) (pgs_cons (pg_name (i:=2) sc_is_kind.nd rfl (.inl rfl)) (pgs_cons (pg_name (i:=3) sc_is_kind.nd rfl (.inl rfl)) pgs_nil)))))
  (pss_cons (ps_if (PW.pt (pw_or (pt_not (pt_val (pe_got G_is_name (hr.mono (by omega)) rfl (pa_cons (pv 1) pa_nil)))) (pw_or1 (pt_not (pt_val (pe_isi B (pv 2) B.bool boot_bool)))))) (pss_one (ps_ret pe_bl)) pss_nil)
  (pss_one (ps_ret (pe_and (pe_isi B (pv 3) B.list boot_list) (pe_and (pe_cmpR op_le (pe_callB call_len_seq rfl B.len PySem.boot_len (pa_cons (pv 3) pa_nil)) (pe_glob (v:=.int (4)) rfl h_MOST_RULES ⟨_,rfl⟩) (nomark _)) (pe_one (pe_callB (cr_all rfl) rfl B.all boot_all (pa_cons (pe_lc (own:=[("row",4)]) (g:=(gName 4)) (tt:=tYes) (te:=(tCall (spIsRule K) [] E0 (tCons (tVar 4) tNil))) rfl sc_is_kind.nd (pi_list (pv 3)) (blkOk_by (N:=N_is_kind) (sc:=defScope s_is_kind) (by decide +kernel)) (fun _ _ _ _ _=>(pg_name (i:=4) sc_is_kind.nd rfl (.inl rfl))) (fun _ _ _ _ _=>pts_nil) (fun _ _ _ _ _=>(pe_got G_is_rule (hr.mono (by omega)) rfl (pa_cons (pv 4) pa_nil)))) pa_nil))))))))),?_⟩
 have no:¬ KTKd t->∀ H',SB [] H H'->Q (.bl false) H':=fun e H' s'=>q false H' s' ⟨(fun z=>nomatch z),fun z=>absurd z e⟩
 cases t with
 | other =>
  have n0:¬ KTKd .other:=by rintro ⟨k,e,_⟩; cases e
  obtain ⟨d,tg,hd⟩:=th
  obtain ⟨n1,b,ty,kb,y1,y2⟩:=tg.ty
  refine ⟨_,rfl,_,_,n1,b,rfl,ty,kb,b,rfl,?_⟩
  cases b with
  | false=>exact iteT (iteT (no n0 _ SB.refl))
  | true =>
  refine iteF ?_
  obtain ⟨a,xs,ds,rfl,rfl,hs,ha⟩:=y1 rfl
  refine ⟨_,rfl,a,xs,rfl,.inr hs,rfl,_,rfl,?_⟩
  have hl:=TgAll.length ha
  have h3:=hd ds rfl
  rw [show (!decide (V.int (xs.length:Nat)=V.int 3))=true by rw [decide_eq_false (fun z=>by injection z with z; omega)]; rfl]
  exact iteT (no n0 _ SB.refl)
 | three d w rs =>
  obtain ⟨a,x,y,z,rfl,hs,tx,ty,tz⟩:=th
  refine ⟨_,rfl,_,_,"tuple",true,rfl,SqT_ty hs,by decide +kernel,_,rfl,?_⟩
  refine iteF ?_
  refine ⟨_,rfl,a,_,rfl,.inr hs,rfl,_,rfl,?_⟩
  rw [show (!decide (V.int (([x,y,z]:List V).length:Nat)=V.int 3))=false from rfl]
  refine iteF ?_
  refine ⟨_,rfl,a,_,rfl,hs,rfl,_,_,rfl,_,_,rfl,_,_,rfl,rfl,?_⟩
  refine ⟨_,rfl,x,d,rfl,tx,fun H1 s1=>?_⟩
  refine ⟨_,rfl,?_⟩
  cases g1:nameD d with
  | false =>
   refine iteT (iteT (no ?_ _ s1))
   rintro ⟨k,e,hk,_⟩
   injection e with e _ _
   rw [e,nameD_ok hk] at g1
   cases g1
  | true =>
  refine iteF ?_
  obtain ⟨nm,rfl,hnm⟩:=nameD_iff g1
  cases w with
  | none =>
   obtain ⟨n,ty,kb⟩:=ty
   refine ⟨_,rfl,_,_,n,false,rfl,TyX_sb s1 (fun _ _=>nmn) ty,kb,_,rfl,?_⟩
   refine iteT (no ?_ _ s1)
   rintro ⟨k,e,_⟩
   injection e with _ e _
   cases e
  | some bb =>
  have ty:y=.bl bb:=ty
  subst ty
  refine ⟨_,rfl,_,_,"bool",true,rfl,.base (.bl bb),by decide +kernel,_,rfl,?_⟩
  refine iteF ?_
  cases rs with
  | none =>
   obtain ⟨n,ty,kb⟩:=tz
   refine ⟨_,rfl,_,_,n,false,rfl,TyX_sb s1 (fun _ _=>nmn) ty,kb,_,rfl,?_⟩
   refine iteF (no ?_ _ s1)
   rintro ⟨k,e,_⟩
   injection e with _ _ e
   cases e
  | some ds =>
  obtain ⟨l,zs,rfl,hl,ha⟩:=tz
  obtain ⟨hd1,hd2⟩:=hf ds rfl
  refine ⟨_,rfl,_,_,"list",true,rfl,SqL_ty (s1.sqL nmn (SqL.of hl)),by decide +kernel,_,rfl,?_⟩
  refine iteT ?_
  have hlen:=TgAll.length ha
  refine ⟨_,rfl,l,_,rfl,.inl (s1.sqL nmn (SqL.of hl)),_,_,rfl,rfl,_,rfl,?_⟩
  refine ite2 (fun c=>?_) (fun c=>?_)
  ·have c1:=of_decide_eq_true c
   rw [hlen] at c1
   have szl:=sizeLine_eq
   refine ⟨_,rfl,l,rfl,⟨_,s1.sqL nmn (SqL.of hl)⟩,fun D hD=>?_⟩
   refine lc_seq (walk_list (xs:=zs)) hD (by omega) (fun i us _=>∃ bs:List Bool,us=bs.map V.bl/\bs.length=i/\∀ j b,bs[j]?=some b->∀ x,ds[j]?=some x->(b=true ↔ RuD x)) ⟨[],rfl,rfl,fun j b h=>by rw [List.getElem?_nil] at h; cases h⟩ (fun H6 s6=>s6.sqL nmn (s1.sqL nmn (SqL.of hl))) (fun _ _ _ _ _ h=>h) (fun Pv i x H6 H' us hi s6 y hR hl6 fin _=>?_) (fun us H6 s6 hD6 hR _=>?_)
   ·obtain ⟨rfl,ex⟩:=y
    obtain ⟨p,ep,hp⟩:=TgAll.get ha ex
    obtain ⟨bs,rfl,hbl,hbs⟩:=hR
    refine ⟨rfl,_,rfl,x,p,rfl,Tg_sb (s1.trans s6) hp,hd2 _ (List.mem_of_getElem? ep),fun b H7 s7 hb=>fin _ _ s7 ⟨bs++[b],by rw [List.map_append]; rfl,by rw [List.length_append,hbl]; rfl,fun j b' hj y hy=>?_⟩⟩
    by_cases hji:j < bs.length
    ·rw [List.getElem?_append_left hji] at hj
     exact hbs j b' hj y hy
    ·have hj':j=bs.length:=by
      have:=(List.getElem?_eq_some_iff.mp hj).1
      rw [List.length_append,List.length_singleton] at this
      omega
     subst hj'
     rw [List.getElem?_append_right (Nat.le_refl _),Nat.sub_self] at hj
     cases hj
     rw [hbl,ep] at hy
     cases hy
     exact hb
   ·obtain ⟨bs,rfl,hbl,hbs⟩:=hR
    refine ⟨D,bs,rfl,SqL.of hD6,q _ _ (s1.trans s6) ?_⟩
    have h1:(bs.all id=true) ↔ ∀ x ∈ ds,RuD x:=by
     rw [List.all_eq_true]
     constructor
     ·intro h x hx
      obtain ⟨j,hj,e⟩:=List.getElem_of_mem hx
      have hjb:j < bs.length:=by omega
      exact (hbs j bs[j] (List.getElem?_eq_getElem hjb) x (by rw [List.getElem?_eq_getElem hj,e])).mp (h _ (List.getElem_mem hjb))
     ·intro h b hb
      obtain ⟨j,hj,e⟩:=List.getElem_of_mem hb
      have hjb:j < ds.length:=by omega
      exact (hbs j b (by rw [List.getElem?_eq_getElem hj,e]) ds[j] (List.getElem?_eq_getElem hjb)).mpr (h _ (List.getElem_mem hjb))
    rw [h1]
    constructor
    ·intro h
     obtain ⟨rr,e1,e2⟩:=RuD_all h
     exact ⟨⟨nm,bb,rr⟩,by rw [Kd.kt,e1],hnm,by rw [e1,List.length_map] at c1; show rr.length<=4; omega,e2⟩
    ·rintro ⟨k,e,_,_,hk⟩ x hx
     injection e with _ _ e
     injection e with e
     rw [e] at hx
     obtain ⟨r,hr,rfl⟩:=List.mem_map.mp hx
     exact ⟨r,rfl,hk r hr⟩
  ·have c1:=of_decide_eq_false (Bool.eq_false_iff.mpr c)
   rw [hlen] at c1
   refine no ?_ _ s1
   rintro ⟨k,e,_,h4,_⟩
   injection e with _ _ e
   injection e with e
   rw [e,List.length_map] at c1
   omega
abbrev N_is_rule:List Str:=["thing","once","each","pairs","tree","many"]
theorem sc_is_rule:FnScope N_is_rule ["thing"] (defScope s_is_rule):=⟨rfl,rfl,rfl,by decide +kernel,rfl,by decide +kernel,by decide +kernel⟩
theorem ok_is_rule (B:BI mg) (L_MOST_RULE_PARTS:∃ t,mg "MOST_RULE_PARTS"=some (.int (4) t)) (L_MOST_MANY:∃ t,mg "MOST_MANY"=some (.int (1000000000) t)) (G_is_grove:Got P w K mg base "is_grove" ["thing"] (84) (spIsGrove K 81)) (G_pairs_within:Got P w K mg base "pairs_within" ["grove"] (70) (spPairsW K 70)) (F:Fun K "is_rule" "is_rule" s_is_rule f fd):FnOk P w K mg base CX0 (85) f fd ["thing"] (spIsRule K):=by
 refine F.ok sc_is_rule (fun vs H Q E h=>?_) (fun cdv A outer s H vs Q E hr h=>?_)
 ·obtain ⟨v,d,rfl,_⟩:=h
  rfl
 obtain ⟨v,d,rfl,th,hf,q⟩:=h
 obtain ⟨tk_MOST_RULE_PARTS,h_MOST_RULE_PARTS⟩:=L_MOST_RULE_PARTS
 obtain ⟨tk_MOST_MANY,h_MOST_MANY⟩:=L_MOST_MANY
 have hun2:=hunT hr
 refine ⟨_,pss_cons (ps_if (PW.pt (pw_or (pt_not (pt_val (pe_isi B (pv 0) B.tuple boot_tuple))) (pw_or1 (pt_cmpR op_ne (pe_callB call_len_seq rfl B.len PySem.boot_len (pa_cons (pv 0) pa_nil)) pe_int (nomark _))))) (pss_one (ps_ret pe_bl)) pss_nil)
  (pss_cons (ps_asg (pv 0) (pg_tup rfl (pgs_cons (pg_name (i:=1) sc_is_rule.nd rfl (.inl rfl)) (pgs_cons (pg_name (i:=2) sc_is_rule.nd rfl (.inl rfl)) pgs_nil))))
  (pss_cons (ps_if (PW.pt (pw_or (pt_not (pt_val (pe_got G_is_grove (hr.mono (by omega)) rfl (pa_cons (pv 1) pa_nil)))) (pw_or1 (pt_not (pt_val (pe_got G_is_grove (hr.mono (by omega)) rfl (pa_cons (pv 2) pa_nil))))))) (pss_one (ps_ret pe_bl)) pss_nil)
  (pss_cons (ps_set (i:=3) sc_is_rule.nd rfl (.inl rfl) (pe_op op_cat (pe_got G_pairs_within (hr.mono (by omega)) rfl (pa_cons (pv 1) pa_nil)) (pe_got G_pairs_within (hr.mono (by omega)) rfl (pa_cons (pv 2) pa_nil))))
  (pss_one (ps_ret (pe_and (pe_cmpR op_le (pe_callB call_len_seq rfl B.len PySem.boot_len (pa_cons (pv 3) pa_nil)) (pe_glob (v:=.int (4)) rfl h_MOST_RULE_PARTS ⟨_,rfl⟩) (nomark _)) (pe_one (pe_callB (cr_all rfl) rfl B.all boot_all (pa_cons (pe_lc (own:=[("tree",4),("many",5)]) (g:=(gTup K 2 (gCons (gName 4) (gCons (gName 5) gNil)))) (tt:=tYes) (te:=(tOp (rI0 fun i j=>.bl (decide (i<=j))) (tVar 5) (tC (.int (1000000000))))) rfl sc_is_rule.nd (pi_list (pv 3)) (blkOk_by (N:=N_is_rule) (sc:=defScope s_is_rule) (by decide +kernel)) (fun _ _ _ _ _=>(pg_tup rfl (pgs_cons (pg_name (i:=4) sc_is_rule.nd rfl (.inl rfl)) (pgs_cons (pg_name (i:=5) sc_is_rule.nd rfl (.inl rfl)) pgs_nil)))) (fun _ _ _ _ _=>pts_nil) (fun _ _ _ _ _=>(pe_cmpR op_le (pv 5) (pe_glob (v:=.int (1000000000)) rfl h_MOST_MANY ⟨_,rfl⟩) (nomark _)))) pa_nil))))))))),?_⟩
 have no:¬ RuD d->∀ H',SB [] H H'->Q (.bl false) H':=fun e H' s'=>q false H' s' ⟨(fun z=>nomatch z),fun z=>absurd z e⟩
 obtain ⟨n1,b,ty,kb,y1,y2⟩:=th.ty
 refine ⟨_,rfl,_,_,n1,b,rfl,ty,kb,b,rfl,?_⟩
 cases b with
 | false =>
  refine iteT (iteT (no ?_ _ SB.refl))
  rintro ⟨r,e,_⟩
  exact y2 rfl _ e
 | true =>
 refine iteF ?_
 obtain ⟨a,xs,ds,rfl,rfl,hs,ha⟩:=y1 rfl
 refine ⟨_,rfl,a,xs,rfl,.inr hs,rfl,_,rfl,?_⟩
 have hl:=TgAll.length ha
 by_cases c2:xs.length=2
 ·rw [show (!decide (V.int (xs.length:Nat)=V.int 2))=false by rw [c2]; rfl]
  refine iteF ?_
  cases ha with
  | nil=>simp at c2
  | cons t1 ta =>
   cases ta with
   | nil=>simp at c2
   | cons t2 ta =>
    cases ta with
    | cons t3 ta=>simp at c2
    | nil =>
     rename_i v1 d1 v2 d2
     obtain ⟨f1,f2,f3⟩:=hf
     have q1:d1.depth < PyData.depth (.tuple [d1,d2])/\d2.depth < PyData.depth (.tuple [d1,d2]):=by simp only [PyData.depth,PyData.depthAll]; omega
     have q2:wide d1<=wide (.tuple [d1,d2])/\wide d2<=wide (.tuple [d1,d2]):=by simp only [wide,wides]; omega
     refine ⟨_,rfl,a,_,rfl,hs,rfl,_,_,rfl,_,_,rfl,rfl,?_⟩
     refine ⟨_,rfl,v1,d1,rfl,t1,by omega,by omega,by omega,fun H1 s1=>?_⟩
     refine ⟨_,rfl,?_⟩
     cases g1:groveD d1 with
     | false =>
      refine iteT (iteT (no ?_ _ s1))
      intro z
      obtain ⟨g,k,e,z1,_⟩:=RuD_two z
      injection e with e
      injection e with e _
      rw [e,z1] at g1
      cases g1
     | true =>
     refine iteF ?_
     refine ⟨_,rfl,v2,d2,rfl,Tg_sb s1 t2,by omega,by omega,by omega,fun H2 s2=>?_⟩
     have s02:=s1.trans s2
     refine ⟨_,rfl,?_⟩
     cases g2:groveD d2 with
     | false =>
      refine iteT (no ?_ _ s02)
      intro z
      obtain ⟨g,k,e,_,z1⟩:=RuD_two z
      injection e with e
      injection e with _ e
      injection e with e _
      rw [e,z1] at g2
      cases g2
     | true =>
     refine iteF ?_
     obtain ⟨u1,rfl⟩:=groveD_gr _ g1
     obtain ⟨u2,rfl⟩:=groveD_gr _ g2
     obtain ⟨w1,w2⟩:=f3 _ _ rfl u1 (.inl rfl)
     obtain ⟨w3,w4⟩:=f3 _ _ rfl u2 (.inr rfl)
     have ga1:GA K H v1 u1:=by
      cases t1 with
      | tup h1 h2=>exact .tup h1 (Tg_ga u1 h2)
     have ga2:GA K H v2 u2:=by
      cases t2 with
      | tup h1 h2=>exact .tup h1 (Tg_ga u2 h2)
     refine ⟨_,rfl,_,u1,rfl,ga1.sb s02,by omega,by omega,fun D1 us1 H3 s3 hn1 hD1 hb1=>?_⟩
     refine ⟨_,rfl,_,u2,rfl,(ga2.sb s02).sb s3,by omega,by omega,fun D2 us2 H4 s4 hn2 hD2 hb2=>?_⟩
     have l1:=hb1.length
     have l2:=hb2.length
     rw [Gr.within_length] at l1 l2
     have szl:=sizeLine_eq
     refine ⟨D1,D2,us1,us2,rfl,rfl,s4.keep _ _ hD1 nmn,hD2,by omega,fun D3 hn3=>?_⟩
     have t5:=SB.new (ps:=[]) hn3 (.lst (us1++us2))
     have s05:=((s02.trans s3).trans s4).trans t5
     have hD3:upd H4 D3 (.lst (us1++us2)) D3=some (.lst (us1++us2)):=upd_same
     have hb3:Bears K (upd H4 D3 (.lst (us1++us2))) Gr.pEnc (us1++us2) (u1.within++u2.within):=Bears.append ((hb1.sb s4 Gr.noList_pEnc).sb t5 Gr.noList_pEnc) (hb2.sb t5 Gr.noList_pEnc)
     generalize upd H4 D3 (.lst (us1++us2))=H5 at t5 s05 hD3 hb3
     have iff1:=RuD_iff g1 g2
     refine ⟨_,rfl,D3,_,rfl,.inl (SqL.of hD3),_,_,rfl,rfl,_,rfl,?_⟩
     refine ite2 (fun c=>?_) (fun c=>?_)
     ·have c1:=of_decide_eq_true c
      rw [List.length_append,l1,l2] at c1
      have bl3:=hb3.length
      refine ⟨_,rfl,D3,rfl,⟨_,SqL.of hD3⟩,fun D hD=>?_⟩
      refine lc_seq (walk_list (xs:=us1++us2)) hD (by rw [List.length_append]; omega) (fun i us _=>us=((u1.within++u2.within).take i).map fun p=>V.bl (decide (p.2<=1000000000))) rfl (fun H6 s6=>s6.sqL nmn (SqL.of hD3)) (fun _ _ _ _ _ h=>h) (fun Pv i x H6 H' us hi s6 y hR hl6 fin _=>?_) (fun us H6 s6 hD6 hR _=>?_)
      ·obtain ⟨rfl,ex⟩:=y
       obtain ⟨p,ep,hpd⟩:=hb3.get ex
       obtain ⟨ad,td,ux,rfl,hs2,hs3,hga,hdt⟩:=PA_parts hpd
       refine ⟨ad,_,rfl,s6.sqT hs2,rfl,_,_,rfl,_,_,rfl,rfl,rfl,?_⟩
       refine ⟨_,rfl,_,_,rfl,rfl,fin _ _ SB.refl ?_⟩
       rw [hR,List.take_add_one,ep,Option.toList_some,List.map_append]; rfl
      ·rw [bl3,List.take_length] at hR
       subst hR
       refine ⟨D,((u1.within++u2.within).map fun p=>decide (p.2<=1000000000)),rfl,SqL.of (by rw [List.map_map]; exact hD6),q _ _ (s05.trans s6) ?_⟩
       rw [iff1]
       simp only [List.all_map,List.all_eq_true,Function.comp,id_eq,decide_eq_true_eq]
       exact ⟨fun h=>⟨by omega,h⟩,fun h=>h.2⟩
     ·have c1:=of_decide_eq_false (Bool.eq_false_iff.mpr c)
      rw [List.length_append,l1,l2] at c1
      refine q false _ s05 ⟨(fun z=>nomatch z),fun z=>absurd (iff1.mp z).1 (by omega)⟩
 ·rw [show (!decide (V.int (xs.length:Nat)=V.int 2))=true by rw [decide_eq_false (fun z=>by injection z with z; omega)]; rfl]
  refine iteT (no ?_ _ SB.refl)
  rintro ⟨r,e,_⟩
  have e':PyData.tuple ds=.tuple [r.1.enc,r.2.enc]:=e
  injection e' with e'
  rw [e'] at hl
  exact c2 hl
abbrev N_is_rule_of:List Str:=["rule","names","once","each","tree","many"]
theorem sc_is_rule_of:FnScope N_is_rule_of ["rule","names"] (defScope s_is_rule_of):=⟨rfl,rfl,rfl,by decide +kernel,rfl,by decide +kernel,by decide +kernel⟩
theorem ok_is_rule_of (B:BI mg) (G_pairs_within:Got P w K mg base "pairs_within" ["grove"] (70) (spPairsW K 70)) (F:Fun K "is_rule_of" "is_rule_of" s_is_rule_of f fd):FnOk P w K mg base CX0 (71) f fd ["rule","names"] (spIsRuleOf K):=by
 refine F.ok sc_is_rule_of (fun vs H Q E h=>?_) (fun cdv A outer s H vs Q E hr h=>?_)
 ·obtain ⟨v,l,r,ns,rfl,_⟩:=h
  rfl
 obtain ⟨v,l,r,ns,rfl,hv,ho,hs,hn,q⟩:=h
 have hun2:=hunT hr
 refine ⟨_,pss_cons (ps_asg (pv 0) (pg_tup rfl (pgs_cons (pg_name (i:=2) sc_is_rule_of.nd rfl (.inl rfl)) (pgs_cons (pg_name (i:=3) sc_is_rule_of.nd rfl (.inl rfl)) pgs_nil))))
  (pss_one (ps_ret (pe_callB (cr_all rfl) rfl B.all boot_all (pa_cons (pe_lc (own:=[("tree",4),("many",5)]) (g:=(gTup K 2 (gCons (gName 4) (gCons (gName 5) gNil)))) (tt:=tYes) (te:=(tOp (rIn K false) (tOp (rIxT K) (tVar 4) (tC (.int 0))) (tVar 1))) rfl sc_is_rule_of.nd (pi_list (pe_op op_cat (pe_got G_pairs_within (hr.mono (by omega)) rfl (pa_cons (pv 2) pa_nil)) (pe_got G_pairs_within (hr.mono (by omega)) rfl (pa_cons (pv 3) pa_nil)))) (blkOk_by (N:=N_is_rule_of) (sc:=defScope s_is_rule_of) (by decide +kernel)) (fun _ _ _ _ _=>(pg_tup rfl (pgs_cons (pg_name (i:=4) sc_is_rule_of.nd rfl (.inl rfl)) (pgs_cons (pg_name (i:=5) sc_is_rule_of.nd rfl (.inl rfl)) pgs_nil)))) (fun _ _ _ _ _=>pts_nil) (fun _ _ _ _ _=>(pe_cmpR op_in_seq (pe_ix ix_tup (pv 4) pe_int (fun _ _=>rfl)) (pv 1) (by rfl)))) pa_nil)))),?_⟩
 obtain ⟨ho1,ho2,ho3⟩:=ho
 cases (hv:Dp K H v (.tuple [r.1.enc,r.2.enc])) with
 | tup ht hd =>
 rename_i a xs
 cases hd with
 | cons g1 hd =>
 cases hd with
 | cons g2 hd =>
 cases hd
 have dp1:=(within_deep r.1)
 have dp2:=(within_deep r.2)
 refine ⟨_,rfl,a,_,rfl,ht,rfl,_,_,rfl,_,_,rfl,rfl,?_⟩
 have ga1:GA K H _ r.1:=g1
 have ga2:GA K H _ r.2:=g2
 refine ⟨_,rfl,_,r.1,rfl,ga1,by omega,by omega,fun D1 us1 H3 s3 hn1 hD1 hb1=>?_⟩
 refine ⟨_,rfl,_,r.2,rfl,ga2.sb s3,by omega,by omega,fun D2 us2 H4 s4 hn2 hD2 hb2=>?_⟩
 have l1:=hb1.length
 have l2:=hb2.length
 rw [Gr.within_length] at l1 l2
 have szl:=sizeLine_eq
 refine ⟨D1,D2,us1,us2,rfl,rfl,s4.keep _ _ hD1 nmn,hD2,by omega,fun D3 hn3=>?_⟩
 have t5:=SB.new (ps:=[]) hn3 (.lst (us1++us2))
 have s05:=(s3.trans s4).trans t5
 have hD3:upd H4 D3 (.lst (us1++us2)) D3=some (.lst (us1++us2)):=upd_same
 have hb3:Bears K (upd H4 D3 (.lst (us1++us2))) Gr.pEnc (us1++us2) (r.1.within++r.2.within):=Bears.append ((hb1.sb s4 Gr.noList_pEnc).sb t5 Gr.noList_pEnc) (hb2.sb t5 Gr.noList_pEnc)
 generalize upd H4 D3 (.lst (us1++us2))=H5 at t5 s05 hD3 hb3
 have bl3:=hb3.length
 refine ⟨D3,rfl,⟨_,SqL.of hD3⟩,fun D hD=>?_⟩
 refine lc_seq (walk_list (xs:=us1++us2)) hD (by rw [List.length_append]; omega) (fun i us _=>us=((r.1.within++r.2.within).take i).map fun p=>V.bl (decide (p.1.1 ∈ ns))) rfl (fun H6 s6=>s6.sqL nmn (SqL.of hD3)) (fun _ _ _ _ _ h=>h) (fun Pv i x H6 H' us hi s6 y hR hl6 fin _=>?_) (fun us H6 s6 hD6 hR _=>?_)
 ·obtain ⟨rfl,ex⟩:=y
  obtain ⟨p,ep,hpd⟩:=hb3.get ex
  obtain ⟨ad,td,ux,rfl,hs2,hs3,hga,hdt⟩:=PA_parts hpd
  refine ⟨ad,_,rfl,s6.sqT hs2,rfl,_,_,rfl,_,_,rfl,rfl,rfl,?_⟩
  refine ⟨_,rfl,td,_,_,_,rfl,rfl,s6.sqT hs3,atI_nat (j:=0) rfl,_,rfl,l,_,rfl,.inl ((s05.trans s6).sqL nmn hs),rfl,flat_strs _,fin _ _ SB.refl ?_⟩
  rw [hR,List.take_add_one,ep,Option.toList_some,List.map_append,inV_strs]; rfl
 ·rw [bl3,List.take_length] at hR
  subst hR
  refine ⟨D,((r.1.within++r.2.within).map fun p=>decide (p.1.1 ∈ ns)),rfl,SqL.of (by rw [List.map_map]; exact hD6),?_⟩
  have:=q _ (s05.trans s6)
  rw [show (List.map (fun p:Tr × Int=>decide (p.1.1 ∈ ns)) (r.1.within++r.2.within)).all id=decide (∀ p ∈ Ru.within r,p.1.1 ∈ ns) by
   rw [Bool.eq_iff_iff]
   simp only [List.all_map,List.all_eq_true,Function.comp,id_eq,decide_eq_true_eq]
   exact Iff.rfl]
  exact this
abbrev N_tree_at:List Str:=["grove","place","tree","row","at"]
theorem sc_tree_at:FnScope N_tree_at ["grove","place"] (defScope s_tree_at):=⟨rfl,rfl,rfl,by decide +kernel,rfl,by decide +kernel,by decide +kernel⟩
theorem ok_tree_at {C:Addr} (B:BI mg) (O:Own K mg "NoPlace" C) (GW:Got P w K mg base "is_whole" ["thing"] 1 (spWhole K)) (F:Fun K "tree_at" "tree_at" s_tree_at f fd):FnOk P w K mg base (L2.CX P w) 2 f fd ["grove","place"] (spTreeAt K C):=by
 refine F.okX sc_tree_at (fun vs H Q E h=>?_) (fun cdv A outer s H vs Q E hr h=>?_)
 ·obtain ⟨v,g,a,xs,os,rfl,_⟩:=h
  rfl
 obtain ⟨v,g,a,xs,os,rfl,hv,hs,hw,q,qE⟩:=h
 refine ⟨_,pss_cons (ps_if (pt_not (pt_truth (pv 1) (by intro _; rfl))) (pss_one (ps_raise rfl (takes_of rfl rfl rfl rfl) (pmk_own PySem.F.excBase_ValueError O.q O.gC O.k (raises_own O.s O.t) rfl))) pss_nil)
  (pss_cons (ps_set (i:=2) sc_tree_at.nd rfl (.inl rfl) (pe_tup pa_nil))
  (pss_cons (ps_set (i:=3) sc_tree_at.nd rfl (.inl rfl) (pv 0))
  (pss_cons (ps_for (passes_of rfl) rfl (pi_tup (pv 1)) (pg_name (i:=4) sc_tree_at.nd rfl (.inl rfl))
   (pss_cons (ps_if (PW.pt (pw_or (pt_not (pt_val (pe_got GW hr rfl (pa_cons (pv 4) pa_nil)))) (pw_or1 (pt_not (pt_chain op_le op_lt pe_int (pv 4) (pe_callB call_len_seq rfl B.len PySem.boot_len (pa_cons (pv 3) pa_nil)))))))
    (pss_one (ps_raise rfl (takes_of rfl rfl rfl rfl) (pmk_own PySem.F.excBase_ValueError O.q O.gC O.k (raises_own O.s O.t) rfl))) pss_nil)
   (pss_cons (ps_set (i:=2) sc_tree_at.nd rfl (.inl rfl) (pe_ix ix_tup (pe_ix ix_tup (pv 3) (pv 4) (fun _ _=>rfl)) pe_int (fun _ _=>rfl)))
   (pss_one (ps_set (i:=3) sc_tree_at.nd rfl (.inl rfl) (pe_ix ix_tup (pv 2) pe_int (fun _ _=>rfl)))))))
  (pss_one (ps_ret (pv 2)))))),?_⟩
 have wl:=hw.length
 by_cases hnil:os=[]
 ·have x0:xs=[]:=by rw [hnil] at wl; exact List.length_eq_zero_iff.mp wl
  exact ⟨_,rfl,false,.inr (.inl ⟨xs,hs,by rw [x0]; rfl⟩),iteT (qE (.inl hnil) _ SB.refl)⟩
 have x1:xs ≠ []:=fun z=>hnil (by rw [z] at wl; exact List.length_eq_zero_iff.mp wl.symm)
 refine ⟨_,rfl,true,.inr (.inl ⟨xs,hs,by cases xs with | nil=>exact absurd rfl x1 | cons _ _=>rfl⟩),iteF ?_⟩
 refine ⟨(by show 0<=sizeLine; decide),fun e0 he0=>?_⟩
 have t0:=SB.new (ps:=[]) he0 (.tup [])
 have hv0:=hv.sb t0
 have hs0:=t0.sqT hs
 have hw':Whs K (upd H e0 (.tup [])) xs os:=Whs.sb t0 hw
 generalize hH0:upd H e0 (.tup [])=H0 at t0 hv0 hs0 hw'
 refine ⟨_,rfl,_,rfl,a,rfl,⟨xs,hs0⟩,?_⟩
 refine for_tup (K:=K) (a:=a) (xs:=xs) (fun i σ H2=>H2=H0/\∃ (tv rv:V) (t:Tr) (o4:Option V),σ=[some v,some (.ref a),some tv,some rv,o4]/\lk ("",g) (os.take i)=some t/\GA K H0 rv t.2/\(i=0\/Dp K H0 tv (Gr.tEnc t)))
  ⟨rfl,_,_,("",g),none,rfl,rfl,hv0,.inl rfl⟩ (fun i σ H2 hi h2=>by rw [h2.1]; exact hs0) (fun i x σ H2 hx h2=>?_) (fun σ H2 h2=>?_)
 ·obtain ⟨rfl,tv,rv,t,o4,rfl,hlk,hrv,_⟩:=h2
  obtain ⟨o,eo,hwx⟩:=hw'.get hx
  have bad:stp t.2 o=none->E (.ref C) none H2:=fun z=>qE (.inr (lk_none hlk eo z)) _ t0
  rcases hwx with ⟨n,rfl,rfl⟩ | ⟨rfl,n,b1,b2,ty,k1,k2,k3⟩
  ·refine ⟨_,rfl,_,"int",true,false,rfl,.base (.int n),by decide +kernel,fun _=>by decide +kernel,true,rfl,iteF ?_⟩
   obtain ⟨c,ys,rfl,hsc,hbc⟩:=GA_bears hrv
   have yl:=hbc.length
   refine ⟨_,rfl,_,_,rfl,rfl,_,rfl,?_⟩
   by_cases h0:0<=n
   ·rw [decide_eq_true h0]
    refine iteT ⟨_,rfl,c,ys,rfl,.inr hsc,_,_,rfl,rfl,_,rfl,?_⟩
    obtain ⟨m,rfl⟩:∃ m:Nat,n=(m:Int):=⟨n.toNat,by omega⟩
    by_cases h1:m < ys.length
    ·rw [show decide ((m:Int) < (ys.length:Nat))=true from decide_eq_true (by omega)]
     refine iteF ?_
     obtain ⟨y,hy⟩:∃ y,ys[m]?=some y:=⟨_,List.getElem?_eq_getElem h1⟩
     obtain ⟨p,ep,hpd⟩:=hbc.get hy
     obtain ⟨ad,bd,ux,rfl,hsx,hst,hdx,hdt⟩:=PA_parts hpd
     refine ⟨_,rfl,_,rfl,c,ys,_,_,rfl,rfl,hsc,atI_nat hy,ad,_,_,_,rfl,rfl,hsx,atI_nat (j:=0) rfl,?_⟩
     refine ⟨_,rfl,bd,_,_,_,rfl,rfl,hst,atI_nat (j:=1) rfl,?_⟩
     have es:stp t.2 (some (m:Int))=some p.1:=by
      show (if 0<=(m:Int) then (t.2.ps[(m:Int).toNat]?).map (·.1) else none)=_
      rw [if_pos h0,Int.toNat_natCast,ep]; rfl
     exact ⟨rfl,_,_,p.1,_,rfl,lk_next hlk eo es,hdx,.inr hdt⟩
    ·rw [show decide ((m:Int) < (ys.length:Nat))=false from decide_eq_false (by omega)]
     refine iteT (bad ?_)
     show (if 0<=(m:Int) then (t.2.ps[(m:Int).toNat]?).map (·.1) else none)=_
     rw [if_pos h0,Int.toNat_natCast,List.getElem?_eq_none (by omega)]; rfl
   ·rw [decide_eq_false h0]
    refine iteF ⟨_,rfl,iteT (bad ?_)⟩
    show (if 0<=n then (t.2.ps[n.toNat]?).map (·.1) else none)=_
    rw [if_neg h0]
  ·refine ⟨_,rfl,_,n,b1,b2,rfl,ty,k1,k2,_,rfl,?_⟩
   rw [k3]
   exact iteT (iteT (bad rfl))
 ·obtain ⟨rfl,tv,rv,t,o4,rfl,hlk,hrv,h3⟩:=h2
  rw [wl,List.take_length] at hlk
  refine ⟨_,rfl,q t hnil hlk _ _ t0 ?_⟩
  rcases h3 with h3 | h3
  ·exact absurd (List.length_eq_zero_iff.mp h3) x1
  ·exact h3
abbrev N_all_places:List Str:=["grove","found","at","pair","place"]
theorem sc_all_places:FnScope N_all_places ["grove"] (defScope s_all_places):=⟨rfl,rfl,rfl,by decide +kernel,rfl,by decide +kernel,by decide +kernel⟩
theorem none_all_places {ps:List Str} {k:Nat}:FnOk P w K mg base CX0 k f fd ps (spAllP K 0):=none_sp fun vs H Q E ⟨v,g,_,_,h,_⟩=>by omega
theorem ok_all_places {n:Nat} (B:BI mg) (G_all_places:Got P w K mg base "all_places" ["grove"] (n) (spAllP K n)) (F:Fun K "all_places" "all_places" s_all_places f fd):FnOk P w K mg base CX0 (n+1) f fd ["grove"] (spAllP K (n+1)):=by
 refine F.ok sc_all_places (fun vs H Q E h=>?_) (fun cdv A outer s H vs Q E hr h=>?_)
 ·obtain ⟨v,g,rfl,_⟩:=h
  rfl
 obtain ⟨v,g,rfl,hv,hd,hd100,hp,q⟩:=h
 have hun2:=hunT hr
 refine ⟨_,pss_cons (ps_set (i:=1) sc_all_places.nd rfl (.inl rfl) (pe_lst pa_nil))
  (pss_cons (ps_for PassesOwn.never rfl (pi_enumT rfl B.enumerate (pv 0)) (pg_tup rfl (pgs_cons (pg_name (i:=2) sc_all_places.nd rfl (.inr rfl)) (pgs_cons (pg_name (i:=3) sc_all_places.nd rfl (.inl rfl)) pgs_nil)))
   (pss_cons (ps_expr (pe_bm PySem.F.plainAttrs_list PySem.F.slot_list_append PySem.F.type_list_append mt_append (pv 1) (pa_cons (pe_tup (pa_cons (pv 2) pa_nil)) pa_nil)))
  (pss_one (ps_expr (pe_bm PySem.F.plainAttrs_list PySem.F.slot_list_extend PySem.F.type_list_extend mt_extend (pv 1) (pa_cons (pe_lc (own:=[("place",4)]) (g:=(gName 4)) (tt:=tYes) (te:=(tOp (rCatB K) (tTup (tCons (tVar 2) tNil)) (tVar 4))) rfl sc_all_places.nd (pi_list (pe_got G_all_places (hr.mono (by omega)) rfl (pa_cons (pe_ix ix_tup (pe_ix ix_tup (pv 3) pe_int (fun _ _=>rfl)) pe_int (fun _ _=>rfl)) pa_nil))) (blkOk_by (N:=N_all_places) (sc:=defScope s_all_places) (by decide +kernel)) (fun _ _ _ _ _=>(pg_name (i:=4) sc_all_places.nd rfl (.inl rfl))) (fun _ _ _ _ _=>pts_nil) (fun _ _ _ _ _=>(pe_op op_catB (pe_tup (pa_cons (pv 2) pa_nil)) (pv 4)))) pa_nil))))))
  (pss_one (ps_ret (pv 1)))),?_⟩
 obtain ⟨a,xs,rfl,hs,hb⟩:=GA_bears hv
 have bl:=hb.length
 have lenb:=g.ak_len 0
 refine ⟨(by show 0<=sizeLine; decide),fun D hD=>?_⟩
 refine ⟨_,rfl,a,xs,rfl,(SB.new (ps:=[]) hD _).sqT hs,?_⟩
 refine for_it (walk_enumT (xs:=xs)) (fun i σ H2=>SB [D] H H2/\∃ us o2 o3,σ=[some (.ref a),some (.ref D),o2,o3,none]/\H2 D=some (.lst us)/\Bears K H2 plEnc us ((Gr.aks (g.ps.take i) 0).map (·.1))) ⟨SB.new hD _,[],none,none,rfl,upd_same,.nil⟩ (fun i σ H2 hi h2=>(h2.1.drop hD).sqT hs) (fun i x σ H2 H' hi h2 y=>?_) (fun σ H2 h2=>?_)
 ·obtain ⟨s2,us,o2,o3,rfl,hD2,hb2⟩:=h2
  obtain ⟨T,e1,e2,rfl,hT,rfl,ee1,ee2⟩:=y
  have he1:e1=.int (i:Nat):=(Option.some.inj ee1).symm
  subst he1
  obtain ⟨p,ep,hpd⟩:=hb.get ee2
  have pm:=List.mem_of_getElem? ep
  obtain ⟨ad,td,ux,rfl,hs2,hs3,hga,_⟩:=PA_parts hpd
  have t3:=SB.new (ps:=[D]) hT (.tup [.int (i:Nat),.ref ad])
  have hD3:(upd H2 T (.tup [.int (i:Nat),.ref ad])) D=some (.lst us):=by rw [upd_ne (ne_of_none hD2 hT)]; exact hD2
  have hT3:SqT K (upd H2 T (.tup [.int (i:Nat),.ref ad])) T [.int (i:Nat),.ref ad]:=SqT.of upd_same
  have s3:=s2.trans t3
  have hb3:=hb2.sb t3 pl_noList
  generalize hH3:upd H2 T (.tup [.int (i:Nat),.ref ad])=H3 at t3 hD3 hT3 s3 hb3
  have ul:=hb3.length
  rw [List.length_map] at ul
  have pd:=g.mem_deep p pm
  have pp:=g.mem_parts p pm
  have hsp:g.ak 0=Gr.aks (g.ps.take i) 0++Gr.akP p i++Gr.aks (g.ps.drop (i+1)) (i+1):=by
   rw [Gr.ak_ps]
   conv=>lhs; rw [<- List.take_append_drop (i+1) g.ps]
   rw [Gr.aks_append,Gr.aks_take ep,List.length_take,Nat.min_eq_left (by omega),Nat.zero_add]
  have hlen:=congrArg List.length hsp
  rw [List.length_append,List.length_append] at hlen
  have hP:(Gr.akP p i).length=1+p.1.2.parts:=by
   unfold Gr.akP
   rw [List.length_cons,List.length_map,Gr.ak_len]; omega
  refine ⟨T,_,rfl,hT3,rfl,_,_,rfl,_,_,rfl,rfl,?_⟩
  refine ⟨_,rfl,.inl ⟨rfl,_,SqL.of hD3⟩,_,rfl,(by show 1<=sizeLine; decide),fun t ht=>?_⟩
  have t4:=SB.new (ps:=[D]) ht (.tup [.int (i:Nat)])
  have hD4:(upd H3 t (.tup [.int (i:Nat)])) D=some (.lst us):=by rw [upd_ne (ne_of_none hD3 ht)]; exact hD3
  refine ⟨D,us,_,rfl,rfl,hD4,small1000 (by omega),?_⟩
  have t5:=SB.set (ps:=[D]) hD4 (by simp) (.lst (us++[.ref t]))
  have hD5:(upd (upd H3 t (.tup [.int (i:Nat)])) D (.lst (us++[.ref t]))) D=some (.lst (us++[.ref t])):=upd_same
  have hb5:=Bears.append ((hb3.sb t4 pl_noList).sb t5 pl_noList) (.cons (PL_of (p:=[i]) (t5.sqT (SqT.of upd_same))) .nil)
  have s5:=(s3.trans t4).trans t5
  generalize hH5:upd (upd H3 t (.tup [.int (i:Nat)])) D (.lst (us++[.ref t]))=H5 at t5 hD5 hb5 s5
  have s5':=s5.drop hD
  refine ⟨_,rfl,.inl ⟨rfl,_,SqL.of hD5⟩,?_⟩
  refine ⟨_,rfl,ad,_,_,_,rfl,rfl,s5'.sqT hs2,atI_nat (j:=0) rfl,td,_,_,_,rfl,rfl,s5'.sqT hs3,atI_nat (j:=1) rfl,_,p.1.2,rfl,hga.sb s5',by omega,by omega,by omega,fun D2 vs2 H6 s6 nD2 hD6 hb6=>?_⟩
  have hD6':=s6.keep _ _ hD5 nmn
  have vl:=hb6.length
  rw [List.length_map] at vl
  have pal:=p.1.2.ak_len 0
  refine ⟨D2,rfl,⟨_,SqL.of hD6⟩,fun L hL=>?_⟩
  have DL:D ≠ L:=ne_of_none hD6' hL
  refine lc_seq (walk_list (xs:=vs2)) hL (by have:=small1000 (n:=vs2.length) (by omega); omega) (fun j ws H7=>Bears K H7 plEnc ws (((p.1.2.ak 0).take j).map fun x:Pl × Str=>i::x.1)) .nil (fun H7 s7=>s7.sqL nmn (SqL.of hD6)) (fun _ _ _ _ e h=>h.sb e pl_noList) (fun Pv j z Hq H7 ws hj s7 yz hR hw fin _=>?_) (fun ws H7 s7 hL7 hR hw=>?_)
  ·obtain ⟨rfl,ez⟩:=yz
   obtain ⟨pl,epl,hpl⟩:=hb6.get ez
   rw [List.getElem?_map] at epl
   obtain ⟨x,ex,rfl⟩:=Option.map_eq_some_iff.mp epl
   obtain ⟨pa,rfl,hpa⟩:=PL_ints hpl
   have plong:=p.1.2.ak_long 0 x (List.mem_of_getElem? ex)
   refine ⟨rfl,?_⟩
   refine ⟨_,rfl,(by show 1<=sizeLine; decide),fun t ht=>?_⟩
   have t8:=SB.new (ps:=[]) ht (.tup [.int (i:Nat)])
   refine ⟨_,rfl,t,pa,_,_,rfl,rfl,SqT.of upd_same,t8.sqT (s7.sqT hpa),?_,fun c H8 s8 hc=>?_⟩
   ·rw [List.length_map,List.length_singleton]
    have:=small5 (n:=1+x.1.length) (by omega)
    omega
   refine fin _ _ (t8.trans s8) ?_
   rw [List.take_add_one,ex,Option.toList_some,List.map_append]
   exact Bears.append ((hR.sb t8 pl_noList).sb s8 pl_noList) (.cons (PL_of (p:=i::x.1) hc) .nil)
  ·rw [vl,List.take_length] at hR
   have wl:=hR.length
   rw [List.length_map] at wl
   have hD7:=s7.keep _ _ hD6' nmn
   refine ⟨D,L,_,_,rfl,rfl,hD7,hL7,?_,?_⟩
   ·rw [List.length_append,List.length_singleton]
    have:=small5 (n:=us.length+1+ws.length) (by omega)
    omega
   have t8:=SB.set (ps:=[D]) hD7 (by simp) (.lst (us++[.ref t]++ws))
   refine ⟨((s5.trans s6.nil).trans s7.nil).trans t8,_,_,_,rfl,upd_same,?_⟩
   rw [Gr.aks_take ep,List.map_append]
   show Bears _ _ _ _ (_++([i]::((p.1.2.ak 0).map fun x=>(i::x.1,x.2)).map (·.1)))
   rw [List.map_map,show ∀ A B:List Pl,A++[i]::B=A++[[i]]++B from fun A B=>by simp]
   exact Bears.append (((hb5.sb s6 pl_noList).sb s7 pl_noList).sb t8 pl_noList) (hR.sb t8 pl_noList)
 ·obtain ⟨s2,us,o2,o3,rfl,hD2,hb2⟩:=h2
  rw [bl,List.take_length,<- Gr.ak_ps] at hb2
  exact ⟨_,rfl,q D us H2 (s2.drop hD) hD hD2 hb2⟩
abbrev N_steps_of:List Str:=["book","name","found","rule","once","each"]
theorem sc_steps_of:FnScope N_steps_of ["book","name"] (defScope s_steps_of):=⟨rfl,rfl,rfl,by decide +kernel,rfl,by decide +kernel,by decide +kernel⟩
theorem ok_steps_of {C_Book C_NoKind:Addr} (B:BI mg) (G_Book_rules:GotMX P w K mg base C_Book "rules" ["self","name"] (4) (spBRules K C_Book C_NoKind)) (G_steps_in:Got P w K mg base "steps_in" ["name","rule","word","grove"] (21) (spStepsIn K)) (F:Fun K "steps_of" "steps_of" s_steps_of f fd):FnOk P w K mg base (L2.CX P w) (22) f fd ["book","name"] (spStepsOf K C_Book C_NoKind):=by
 refine F.okX sc_steps_of (fun vs H Q E h=>?_) (fun cdv A outer s H vs Q E hr h=>?_)
 ·obtain ⟨v,b,n,rfl,_⟩:=h
  rfl
 obtain ⟨v,b,n,rfl,hv,ok,qk,qE⟩:=h
 have hun2:=hunT hr
 refine ⟨_,pss_cons (ps_set (i:=2) sc_steps_of.nd rfl (.inl rfl) (pe_lst pa_nil))
  (pss_cons (ps_for (passes_of rfl) rfl (pi_enumS rfl B.enumerate (pe_gotMS G_Book_rules (hr.mono (by omega)) (takes_of rfl rfl rfl rfl) (pv 0) (pa_cons (pv 1) pa_nil))) (pg_tup rfl (pgs_cons (pg_name (i:=3) sc_steps_of.nd rfl (.inl rfl)) (pgs_cons (pg_tup rfl (pgs_cons (pg_name (i:=4) sc_steps_of.nd rfl (.inl rfl)) (pgs_cons (pg_name (i:=5) sc_steps_of.nd rfl (.inl rfl)) pgs_nil))) pgs_nil)))
   (pss_cons (ps_expr (pe_bm PySem.F.plainAttrs_list PySem.F.slot_list_extend PySem.F.type_list_extend mt_extend (pv 2) (pa_cons (pe_got G_steps_in (hr.mono (by omega)) rfl (pa_cons (pv 1) (pa_cons (pv 3) (pa_cons pe_str (pa_cons (pv 4) pa_nil))))) pa_nil)))
  (pss_one (ps_expr (pe_bm PySem.F.plainAttrs_list PySem.F.slot_list_extend PySem.F.type_list_extend mt_extend (pv 2) (pa_cons (pe_got G_steps_in (hr.mono (by omega)) rfl (pa_cons (pv 1) (pa_cons (pv 3) (pa_cons pe_str (pa_cons (pv 5) pa_nil))))) pa_nil))))))
  (pss_one (ps_ret (pv 2)))),?_⟩
 have szl:=sizeLine_eq
 obtain ⟨va,vdx,vd1,vd2,rfl,hva⟩:=hv.at
 have b8:=ok.len
 have rok:∀ k ∈ b,k.rs.length<=1000:=fun k hk=>by have:=(ok.kd k hk).2.1; omega
 refine ⟨(by show 0<=sizeLine; decide),fun D hD=>?_⟩
 have t1:=SB.new (ps:=[]) hD (.lst [])
 have hD1:upd H D (.lst []) D=some (.lst []):=upd_same
 generalize upd H D (.lst [])=H1 at t1 hD1
 refine ⟨_,rfl,va,vdx,_,rfl,t1.keep _ _ hva nmn,rfl,_,rfl,_,b,n,rfl,hv.sb0 t1,by omega,rok,fun k eg ll us H2 s2 nll hll hbl=>?_,fun z d H' s' nd hd=>qE z d H' (t1.trans s') (Classical.byContradiction fun y=>by
  have:=t1.dom d; exact y (t1.dom d nd)) hd⟩
 obtain ⟨hk,rfl⟩:=Bk.get_some eg
 obtain ⟨kn,r4,rr⟩:=ok.kd k hk
 have ul:=hbl.length
 have lD:ll ≠ D:=fun z=>by rw [z,hD1] at nll; cases nll
 have zl:(k.rs.zipIdx 1).length=k.rs.length:=List.length_zipIdx
 have stl:=Kd.steps_len r4 fun r hr=>(rr r hr).1
 refine ⟨ll,us,rfl,SqL.of hll,?_⟩
 refine for_it (walk_enumS (xs:=us)) (fun i σ H3=>SB [D] H2 H3/\∃ ws o3 o4 o5,σ=[some (.ref va),some (.str k.n),some (.ref D),o3,o4,o5]/\H3 D=some (.lst ws)/\Bears K H3 Sx.enc ws (((k.rs.zipIdx 1).take i).flatMap (stR k.n))) ⟨SB.refl,[],none,none,none,rfl,s2.keep _ _ hD1 nmn,.nil⟩ (fun i σ H3 hi h3=>h3.1.sqL (by simpa using lD) (SqL.of hll)) (fun i x σ H3 H' hi h3 y=>?_) (fun σ H3 h3=>?_)
 ·obtain ⟨s3,ws,o3,o4,o5,rfl,hD3,hb3⟩:=h3
  obtain ⟨T,e1,e2,rfl,hT,rfl,ee1,ee2⟩:=y
  have he1:e1=.int ((i+1:Nat):Int):=(Option.some.inj ee1).symm
  subst he1
  obtain ⟨r,er,hr1⟩:=hbl.get ee2
  have hr2:=Dp_sb s3 _ _ (Ru.noList_enc r) hr1
  have ro:=(rr r (List.mem_of_getElem? er)).1
  have ez:(k.rs.zipIdx 1)[i]?=some (r,i+1):=by rw [List.getElem?_zipIdx,er,Nat.add_comm]; rfl
  have hsp:((k.rs.zipIdx 1).take (i+1)).flatMap (stR k.n)=((k.rs.zipIdx 1).take i).flatMap (stR k.n)++stG k.n (i+1) "once" r.1++stG k.n (i+1) "each" r.2:=by
   rw [List.take_add_one,ez,List.flatMap_append]
   simp [stR]
  have hlen:(((k.rs.zipIdx 1).take (i+1)).flatMap (stR k.n)).length<=k.steps.length:=by
   show _<=((k.rs.zipIdx 1).flatMap (stR k.n)).length
   conv=>rhs; rw [<- List.take_append_drop (i+1) (k.rs.zipIdx 1),List.flatMap_append,List.length_append]
   omega
  rw [hsp,List.length_append,List.length_append,stG_len,stG_len] at hlen
  have wl:=hb3.length
  cases (hr2:Dp K H3 e2 (.tuple [r.1.enc,r.2.enc])) with
  | @tup ad us' _ hs' hda =>
  cases hda with
  | cons g1 hda =>
  cases hda with
  | cons g2 hda =>
  cases hda
  rename_i u1 u2
  have t4:=SB.new (ps:=[]) hT (.tup [.int ((i+1:Nat):Int),.ref ad])
  have hT4:SqT K (upd H3 T (.tup [.int ((i+1:Nat):Int),.ref ad])) T [.int ((i+1:Nat):Int),.ref ad]:=SqT.of upd_same
  generalize upd H3 T (.tup [.int ((i+1:Nat):Int),.ref ad])=H4 at t4 hT4
  have hD4:=t4.keep _ _ hD3 nmn
  refine ⟨T,_,rfl,hT4,rfl,_,_,rfl,_,_,rfl,⟨ad,_,rfl,t4.sqT hs',rfl,_,_,rfl,_,_,rfl,rfl,rfl,?_⟩⟩
  have d1:=r.1.deep_parts
  have d2:=r.2.deep_parts
  refine ⟨_,rfl,.inl ⟨rfl,_,SqL.of hD4⟩,_,rfl,_,rfl,_,rfl,k.n,"once",i+1,u1,r.1,rfl,GA.sb g1 t4,by omega,by omega,fun l1 v1 H5 s5 nl1 hl1 hb5=>?_⟩
  have hD5:=s5.keep _ _ hD4 nmn
  have v1l:=hb5.length
  rw [stG_len] at v1l
  refine ⟨D,l1,_,_,rfl,rfl,hD5,hl1,by omega,?_⟩
  have t6:=SB.set (ps:=[D]) hD5 (by simp) (.lst (ws++v1))
  have hb6:=Bears.append (((hb3.sb t4 Sx.noList_enc).sb s5 Sx.noList_enc).sb t6 Sx.noList_enc) (hb5.sb t6 Sx.noList_enc)
  have hD6:upd H5 D (.lst (ws++v1)) D=some (.lst (ws++v1)):=upd_same
  have s6:=((s3.trans t4.nil).trans s5.nil).trans t6
  have g2':=GA.sb (GA.sb g2 t4) s5
  have g2':=GA.sb g2' t6
  generalize upd H5 D (.lst (ws++v1))=H6 at t6 hb6 hD6 s6 g2'
  refine ⟨_,rfl,.inl ⟨rfl,_,SqL.of hD6⟩,_,rfl,_,rfl,_,rfl,k.n,"each",i+1,u2,r.2,rfl,g2',by omega,by omega,fun l2 v2 H7 s7 nl2 hl2 hb7=>?_⟩
  have hD7:=s7.keep _ _ hD6 nmn
  have v2l:=hb7.length
  rw [stG_len] at v2l
  refine ⟨D,l2,_,_,rfl,rfl,hD7,hl2,by rw [List.length_append]; omega,?_⟩
  have t8:=SB.set (ps:=[D]) hD7 (by simp) (.lst (ws++v1++v2))
  refine ⟨(s6.trans s7.nil).trans t8,_,_,_,_,rfl,upd_same,?_⟩
  rw [hsp]
  exact Bears.append ((hb6.sb s7 Sx.noList_enc).sb t8 Sx.noList_enc) (hb7.sb t8 Sx.noList_enc)
 ·obtain ⟨s3,ws,o3,o4,o5,rfl,hD3,hb3⟩:=h3
  rw [ul,<- zl,List.take_length] at hb3
  exact ⟨_,rfl,qk k eg D ws H3 ((t1.trans s2).nil.trans s3 |>.drop hD) hD hD3 hb3⟩
abbrev N_steps_in:List Str:=["name","rule","word","grove","place"]
theorem sc_steps_in:FnScope N_steps_in ["name","rule","word","grove"] (defScope s_steps_in):=⟨rfl,rfl,rfl,by decide +kernel,rfl,by decide +kernel,by decide +kernel⟩
theorem ok_steps_in {C_NoPlace:Addr} (B:BI mg) (G_all_places:Got P w K mg base "all_places" ["grove"] (20) (spAllP K 20)) (G_tree_at:GotX P w K mg base "tree_at" ["grove","place"] (2) (spTreeAt K C_NoPlace)) (F:Fun K "steps_in" "steps_in" s_steps_in f fd):FnOk P w K mg base CX0 (21) f fd ["name","rule","word","grove"] (spStepsIn K):=by
 refine F.ok sc_steps_in (fun vs H Q E h=>?_) (fun cdv A outer s H vs Q E hr h=>?_)
 ·obtain ⟨n,wd,i,v,g,rfl,_⟩:=h
  rfl
 obtain ⟨n,wd,i,v,g,rfl,hv,hd,hp,q⟩:=h
 have hun2:=hunT hr
 refine ⟨_,pss_one (ps_ret (pe_lc (own:=[("place",4)]) (g:=(gName 4)) (tt:=tYes) (te:=(tTup (tCons (tTup (tCons (tVar 0) (tCons (tVar 1) (tCons (tVar 2) (tCons (tVar 4) tNil))))) (tCons (tOp (rIxT K) (tCall (spTreeAt K C_NoPlace) [] E0 (tCons (tVar 3) (tCons (tVar 4) tNil))) (tC (.int 0))) tNil)))) rfl sc_steps_in.nd (pi_list (pe_got G_all_places (hr.mono (by omega)) rfl (pa_cons (pv 3) pa_nil))) (blkOk_by (N:=N_steps_in) (sc:=defScope s_steps_in) (by decide +kernel)) (fun _ _ _ _ _=>(pg_name (i:=4) sc_steps_in.nd rfl (.inl rfl))) (fun _ _ _ _ _=>pts_nil) (fun _ _ _ _ _=>(pe_tup (pa_cons (pe_tup (pa_cons (pv 0) (pa_cons (pv 1) (pa_cons (pv 2) (pa_cons (pv 4) pa_nil))))) (pa_cons (pe_ix ix_tup (pe_gotX G_tree_at (hr.mono (by omega)) rfl (pa_cons (pv 3) (pa_cons (pv 4) pa_nil))) pe_int (fun _ _=>rfl)) pa_nil)))))),?_⟩
 have szl:=sizeLine_eq
 have lenb:=g.ak_len 0
 refine ⟨_,rfl,v,g,rfl,hv,hd,by omega,by omega,fun D us H1 s1 nD hD hb=>?_⟩
 have vl:=hb.length
 rw [List.length_map] at vl
 refine ⟨D,rfl,⟨_,SqL.of hD⟩,fun L hL=>?_⟩
 refine lc_seq (walk_list (xs:=us)) hL (by omega) (fun j ws H2=>Bears K H2 Sx.enc ws (((g.ak 0).take j).map fun x:Pl × Str=>⟨n,i,wd,x.1,x.2⟩)) .nil (fun H2 s2=>s2.sqL nmn (SqL.of hD)) (fun _ _ _ _ e h=>h.sb e Sx.noList_enc) (fun Pv j z Hq H2 ws hj s2 yz hR hw fin _=>?_) (fun ws H2 s2 hL2 hR hw=>?_)
 ·obtain ⟨rfl,ez⟩:=yz
  obtain ⟨pl,epl,hpl⟩:=hb.get ez
  rw [List.getElem?_map] at epl
  obtain ⟨x,ex,rfl⟩:=Option.map_eq_some_iff.mp epl
  obtain ⟨pa,rfl,hpa⟩:=PL_ints hpl
  obtain ⟨n1,t,e1,e2⟩:=g.ak_place x (List.mem_of_getElem? ex)
  refine ⟨rfl,?_⟩
  refine ⟨_,rfl,_,rfl,_,rfl,_,rfl,(by show 4<=sizeLine; decide),fun T hT=>?_⟩
  have t3:=SB.new (ps:=[]) hT (.tup [.str n,.int (i:Int),.str wd,.ref pa])
  have s3:=s2.trans t3
  have hT3:SqT K (upd H2 T (.tup [.str n,.int (i:Int),.str wd,.ref pa])) T [.str n,.int (i:Int),.str wd,.ref pa]:=SqT.of upd_same
  generalize upd H2 T (.tup [.str n,.int (i:Int),.str wd,.ref pa])=H3 at t3 s3 hT3
  refine ⟨_,rfl,_,rfl,v,g,pa,_,plO x.1,rfl,hv.sb (s1.trans s3),s3.sqT hpa,Whs.pl K H3 x.1,fun t' _ et X H4 s4 hX=>?_,fun z=>?_⟩
  ·obtain rfl:t'=t:=Option.some.inj (et.symm.trans e1)
   cases (hX:Dp K H4 X (.tuple [.str t'.1,t'.2.enc])) with
   | tup hX1 hX2 =>
   cases hX2 with
   | cons k1 hX2 =>
   cases hX2 with
   | cons k2 hX2 =>
   cases hX2
   cases k1
   refine ⟨_,_,_,_,rfl,rfl,hX1,atI_nat (j:=0) rfl,(by show 2<=sizeLine; decide),fun T2 hT2=>?_⟩
   have t5:=SB.new (ps:=[]) hT2 (.tup [.ref T,.str t'.1])
   have s25:=(t3.trans s4).trans t5
   refine fin _ _ s25 ?_
   rw [List.take_add_one,ex,Option.toList_some,List.map_append]
   refine Bears.append (hR.sb s25 Sx.noList_enc) (.cons ?_ .nil)
   show Dp K _ _ (.tuple [.tuple [.str n,.int (i:Int),.str wd,plEnc x.1],.str x.2])
   rw [<- e2]
   exact .tup (SqT.of upd_same) (.cons (.tup ((s4.trans t5).sqT hT3) (.cons (.str _) (.cons (.int _) (.cons (.str _) (.cons (Dp_sb (s2.trans s25) _ _ (pl_noList _) hpl) .nil))))) (.cons (.str _) .nil))
  ·rcases z with z | z
   ·exact absurd z n1
   ·rw [e1] at z; cases z
 ·rw [vl,List.take_length] at hR
  exact q L ws H2 (s1.trans s2) (s1.dom L hL) hL2 hR
abbrev N_leads:List Str:=["book","name","step","kind"]
theorem sc_leads:FnScope N_leads ["book","name"] (defScope s_leads):=⟨rfl,rfl,rfl,by decide +kernel,rfl,by decide +kernel,by decide +kernel⟩
theorem ok_leads {C_Book C_NoKind:Addr} (B:BI mg) (G_steps_of:GotX P w K mg base "steps_of" ["book","name"] (22) (spStepsOf K C_Book C_NoKind)) (F:Fun K "leads" "leads" s_leads f fd):FnOk P w K mg base (L2.CX P w) (23) f fd ["book","name"] (spLeads K C_Book C_NoKind):=by
 refine F.okX sc_leads (fun vs H Q E h=>?_) (fun cdv A outer s H vs Q E hr h=>?_)
 ·obtain ⟨v,b,n,rfl,_⟩:=h
  rfl
 obtain ⟨v,b,n,rfl,hv,ok,qk,qE⟩:=h
 have hun2:=hunT hr
 refine ⟨_,pss_one (ps_ret (pe_callB (cr_sortedTx rfl) rfl B.sorted (by decide +kernel) (pa_cons (pe_scS (own:=[("step",2),("kind",3)]) (g:=(gTup K 2 (gCons (gName 2) (gCons (gName 3) gNil)))) (tt:=tYes) (te:=(tVar 3)) rfl sc_leads.nd (pi_list (pe_gotS G_steps_of (hr.mono (by omega)) rfl (takes_of rfl rfl rfl rfl) (pa_cons (pv 0) (pa_cons (pv 1) pa_nil)))) (blkOk_by (N:=N_leads) (sc:=defScope s_leads) (by decide +kernel)) (fun _ _ _ _ _=>(pg_tup rfl (pgs_cons (pg_name (i:=2) sc_leads.nd rfl (.inl rfl)) (pgs_cons (pg_name (i:=3) sc_leads.nd rfl (.inl rfl)) pgs_nil)))) (fun _ _ _ _ _=>pts_nil) (fun _ _ _ _ _=>(pv 3))) pa_nil))),?_⟩
 have scb:1000 < scanBound:=by decide +kernel
 refine ⟨_,rfl,_,rfl,v,b,n,rfl,hv,ok,fun k eg ll us H1 s1 nll hll hbl=>?_,fun z d H' s' nd hd=>qE z d H' s' nd hd⟩
 obtain ⟨hk,rfl⟩:=Bk.get_some eg
 obtain ⟨kn,r4,rr⟩:=ok.kd k hk
 have stl:=Kd.steps_len r4 fun r hr=>(rr r hr).1
 have ul:=hbl.length
 refine ⟨ll,rfl,⟨_,SqL.of hll⟩,fun D nD=>?_⟩
 refine sc_seq (walk_list (xs:=us)) nD (by omega) (fun i ss H2=>ss.Nodup/\∀ x,x ∈ ss ↔ x ∈ (k.steps.take i).map Sx.k) ⟨List.nodup_nil,by simp⟩ (fun H2 s2=>s2.sqL nmn (SqL.of hll)) (fun _ _ _ _ _ h=>h) (fun Pv i x Hq H2 ss hi s2 y hR hl fin _=>?_) (fun ss H2 s2 hD2 hR hl=>?_)
 ·obtain ⟨rfl,ey⟩:=y
  obtain ⟨st,es,hst⟩:=hbl.get ey
  cases (hst:Dp K H1 x (.tuple [st.st,.str st.k])) with
  | @tup ad us' _ hs' hda =>
  cases hda with
  | cons g1 hda =>
  cases hda with
  | cons g2 hda =>
  cases hda
  cases g2
  refine ⟨ad,_,rfl,s2.sqT hs',rfl,_,_,rfl,_,_,rfl,rfl,rfl,?_⟩
  refine ⟨_,rfl,fin st.k _ SB.refl ⟨insS_nodup hR.1,fun x=>?_⟩⟩
  rw [insS_mem,hR.2,List.take_add_one,es,List.map_append,List.mem_append]
  simp [or_comm]
 ·rw [ul,List.take_length,Kd.steps_kinds] at hR
  refine ⟨D,ss,rfl,hD2,by omega,fun ss' p pm srt np=>?_⟩
  have t3:=SB.new (ps:=[]) np (.lst (ss'.map V.str))
  exact qk k eg p ss' _ ((s1.trans s2).trans t3) ((s1.trans s2).dom _ np) upd_same (SrtOf.perm pm srt hR.1 hR.2)
abbrev N_ending_kinds:List Str:=["book","led","ending","fresh","name"]
theorem sc_ending_kinds:FnScope N_ending_kinds ["book"] (defScope s_ending_kinds):=⟨rfl,rfl,rfl,by decide +kernel,rfl,by decide +kernel,by decide +kernel⟩
theorem ok_ending_kinds {C_Book C_NoKind:Addr} (B:BI mg) (G_Book_names:GotM P w K mg base C_Book "names" ["self"] (1) (spBNames K C_Book)) (G_leads:GotX P w K mg base "leads" ["book","name"] (23) (spLeads K C_Book C_NoKind)) (G_lead_into:Got P w K mg base "lead_into" ["led","ending"] (1) (spLeadInto K)) (F:Fun K "ending_kinds" "ending_kinds" s_ending_kinds f fd):FnOk P w K mg base CX0 (24) f fd ["book"] (spEndingO K C_Book C_NoKind):=by
 refine F.ok sc_ending_kinds (fun vs H Q E h=>?_) (fun cdv A outer s H vs Q E hr h=>?_)
 ·obtain ⟨v,b,rfl,_⟩:=h
  rfl
 obtain ⟨v,b,rfl,hv,ok,q⟩:=h
 have hun2:=hunT hr
 refine ⟨_,pss_cons (ps_setDc (i:=1) (own:=[("name",4)]) (g:=(gName 4)) (tt:=tYes) (tk:=(tVar 4)) (tv:=(tCall (spLeads K C_Book C_NoKind) [] E0 (tCons (tVar 0) (tCons (tVar 4) tNil)))) rfl sc_ending_kinds.nd rfl rfl (sw_trueD rfl rfl rfl (by decide +kernel)) (pi_list (pe_gotM0 G_Book_names (hr.mono (by omega)) (pv 0))) (blkOk_by (N:=N_ending_kinds) (sc:=defScope s_ending_kinds) (by decide +kernel)) (fun _ _ _ _ _=>(pg_name (i:=4) sc_ending_kinds.nd rfl (.inl rfl))) (fun _ _ _ _ _=>pts_nil) (fun _ _ _ _ _=>(pv 4)) (fun _ _ _ _ _=>(pe_gotX G_leads (hr.mono (by omega)) rfl (pa_cons (pv 0) (pa_cons (pv 4) pa_nil)))))
  (pss_cons (ps_set (i:=2) sc_ending_kinds.nd rfl (.inl rfl) (pe_lst pa_nil))
  (pss_cons (ps_set (i:=3) sc_ending_kinds.nd rfl (.inl rfl) (pe_got G_lead_into (hr.mono (by omega)) rfl (pa_cons (pv 1) (pa_cons (pv 2) pa_nil))))
  (pss_cons (ps_while PassesOwn.never (pt_truth (pv 3) (by intro _; rfl)) (pss_cons (ps_expr (pe_bm PySem.F.plainAttrs_list PySem.F.slot_list_extend PySem.F.type_list_extend mt_extend (pv 2) (pa_cons (pv 3) pa_nil)))
  (pss_one (ps_set (i:=3) sc_ending_kinds.nd rfl (.inl rfl) (pe_got G_lead_into (hr.mono (by omega)) rfl (pa_cons (pv 1) (pa_cons (pv 2) pa_nil)))))))
  (pss_one (ps_ret (pv 2)))))),?_⟩
 have szl:=sizeLine_eq
 have b8:=ok.len
 have nml:b.names.length=b.length:=List.length_map ..
 obtain ⟨va,vdx,vd1,vd2,rfl,hva⟩:=hv.at
 refine ⟨_,rfl,va,vdx,_,rfl,hva,rfl,?_⟩
 refine ⟨_,b,rfl,hv,by omega,fun nl H1 s1 nn hn=>?_⟩
 refine ⟨nl,rfl,⟨_,SqL.of hn⟩,fun D nD=>?_⟩
 refine dc_seqQ (walk_list (xs:=b.names.map V.str)) nD (by rw [List.length_map]; omega) (fun i kvs H2=>LedAll K H2 kvs (b.take i)/\∀ p ∈ kvs,p.2 ≠ .ref D) ⟨.nil,by simp⟩ (fun H2 s2=>s2.sqL nmn (SqL.of hn)) (fun i kvs H2 H3 s3 ⟨h1,h2⟩=>⟨h1.sb s3 fun p hp q hq=>by rw [List.mem_singleton.mp hq]; exact h2 p hp,h2⟩) (fun Pv i x Hq H2 kvs hi s2 y hR hl hD2 fin _=>?_) (fun kvs H2 s2 hD2 hR hl=>?_)
 ·obtain ⟨rfl,ey⟩:=y
  rw [List.getElem?_map] at ey
  obtain ⟨n,en,rfl⟩:=Option.map_eq_some_iff.mp ey
  rw [List.getElem?_map] at en
  obtain ⟨k,ek,rfl⟩:=Option.map_eq_some_iff.mp en
  have km:=List.mem_of_getElem? ek
  have eg:=Bk.get_self ok.nd km
  obtain ⟨h1,h2⟩:=hR
  have hnew:∀ p ∈ kvs,p.1 ≠ Sum.inr k.n:=fun p hp z=>by
   have h3:p.1 ∈ (Bk.names (b.take i)).map (Sum.inr (α:=Int)):=by rw [<- h1.keys]; exact List.mem_map.mpr ⟨p,hp,rfl⟩
   rw [z] at h3
   obtain ⟨m,hm,e⟩:=List.mem_map.mp h3
   have e:=Sum.inr.inj e
   subst e
   exact take_fresh ok.nd ek hm
  refine ⟨rfl,_,rfl,_,rfl,_,rfl,_,b,k.n,rfl,(hv.sb0 s1).sb0 s2,ok,fun k' e' l ss H3 s3 nl' hl' so=>?_,fun z=>by rw [eg] at z; cases z⟩
  rw [eg] at e'
  cases e'
  refine fin (Sum.inr k.n) (.ref l) H3 s3 ?_
  rw [putK_new hnew,List.take_add_one,ek]
  refine ⟨(h1.sb s3 (by simp)).append (.cons hl' so .nil),fun p hp=>?_⟩
  rcases List.mem_append.mp hp with hp | hp
  ·exact h2 p hp
  ·rw [List.mem_singleton.mp hp]
   intro z
   rw [V.ref.inj z,hD2] at nl'
   cases nl'
 obtain ⟨hk,hkD⟩:=hR
 rw [List.length_map,nml,List.take_length] at hk
 have s12:=s1.trans s2
 refine ⟨by show 0<=sizeLine; decide,fun E nE=>?_⟩
 have t3:=SB.new (ps:=[]) nE (.lst [])
 have hE3:upd H2 E (.lst []) E=some (.lst []):=upd_same
 have hkE:=hk.ne nE
 have hD3:=t3.keep _ _ hD2 nmn
 have hk3:=hk.sb t3 (by simp)
 have s03:=s12.trans t3
 have nE0:H E=none:=s12.dom _ nE
 have DE:D ≠ E:=ne_of_none hD2 nE
 generalize upd H2 E (.lst [])=H3 at t3 hE3 hD3 hk3 s03
 refine ⟨_,rfl,_,rfl,D,E,b,[],kvs,rfl,hD3,hk3,hE3,ok,fun F H4 s4 nF hF=>?_⟩
 refine nameI ⟨fun m σ H5=>∃ (es:List Str) (F:Addr),m=9-es.length/\σ=[some (.ref va),some (.ref D),some (.ref E),some (.ref F),none]/\SB [] H H5/\H5 D=some (.dK kvs)/\LedAll K H5 kvs b/\H5 E=some (.lst (es.map V.str))/\H5 F=some (.lst ((b.names.filter (into b es)).map V.str))/\F ≠ E/\es.Nodup/\(∀ n ∈ es,n ∈ b.names)/\(∀ n ∈ es,EndK b n)/\∀ (i:Nat) (n:Str),es[i]?=some n->∀ k ∈ adj b n,k ∈ es.take i,
  ⟨9,[],F,rfl,rfl,s03.trans s4,s4.keep _ _ hD3 nmn,hk3.sb s4 (by simp),s4.keep _ _ hE3 nmn,hF,(fun z=>by rw [z,hE3] at nF; cases nF),List.nodup_nil,by simp,by simp,by simp⟩,fun m σ H5 hW=>?_⟩
 obtain ⟨es,F,rfl,rfl,s5,hD5,hk5,hE5,hF5,FE,nd,sub,ends,ord⟩:=hW
 have fl:=List.length_filter_le (into b es) b.names
 have esl:es.length<=8:=by
  have:=nd.length_le_of_subset (l₂:=b.names) sub
  omega
 refine ⟨_,rfl,_,.inl ⟨_,SqL.of hF5,rfl⟩,?_⟩
 by_cases hf:b.names.filter (into b es)=[]
 ·rw [hf]
  refine iteF ⟨_,rfl,q E es H5 s5 nE0 hE5 ⟨nd,esl,fun n=>⟨fun h=>⟨sub n h,ends n h⟩,fun h=>end_closed ok hf h.2 h.1⟩,ord⟩⟩
 ·rw [show (!((b.names.filter (into b es)).map V.str).isEmpty)=true by
   cases h:b.names.filter (into b es) with
   | nil=>exact absurd h hf
   | cons _ _=>rfl]
  refine iteT ⟨_,fun σ' H' h=>h,?_⟩
  refine ⟨_,rfl,.inl ⟨rfl,_,SqL.of hE5⟩,_,rfl,E,F,_,_,rfl,rfl,hE5,hF5,by rw [List.length_map,List.length_map]; omega,?_⟩
  rw [<- List.map_append]
  have t6:=SB.set (ps:=[E]) hE5 (by simp) (.lst ((es++b.names.filter (into b es)).map V.str))
  have hE6:upd H5 E (.lst ((es++b.names.filter (into b es)).map V.str)) E=some (.lst ((es++b.names.filter (into b es)).map V.str)):=upd_same
  have hD6:=t6.keep _ _ hD5 (by simpa using DE)
  have hk6:=hk5.sb t6 fun p hp q hq=>by rw [List.mem_singleton.mp hq]; exact hkE p hp
  have s6:SB [] H (upd H5 E (.lst ((es++b.names.filter (into b es)).map V.str))):=((s5.nil (ps:=[E])).trans t6).drop nE0
  generalize upd H5 E (.lst ((es++b.names.filter (into b es)).map V.str))=H6 at t6 hE6 hD6 hk6 s6
  refine ⟨_,rfl,_,rfl,D,E,b,es++b.names.filter (into b es),kvs,rfl,hD6,hk6,hE6,ok,fun F2 H7 s7 nF2 hF2=>?_⟩
  have hpos:0 < (b.names.filter (into b es)).length:=List.length_pos_iff.mpr hf
  refine ⟨9-(es++b.names.filter (into b es)).length,by rw [List.length_append]; omega,es++b.names.filter (into b es),F2,rfl,rfl,s6.trans s7,s7.keep _ _ hD6 nmn,hk6.sb s7 (by simp),s7.keep _ _ hE6 nmn,hF2,(fun z=>by rw [z,hE6] at nF2; cases nF2),?_,fun n hn=>?_,fun n hn=>?_,fun i n ei k hk=>?_⟩
  ·refine List.nodup_append.mpr ⟨nd,ok.nd.filter _,fun x hx y hy e=>?_⟩
   subst e
   have:=(List.mem_filter.mp hy).2
   unfold into at this
   rw [Bool.and_eq_true,decide_eq_true_eq] at this
   exact this.1 hx
  ·rcases List.mem_append.mp hn with h | h
   ·exact sub n h
   ·exact (List.mem_filter.mp h).1
  ·rcases List.mem_append.mp hn with h | h
   ·exact ends n h
   ·have:=(List.mem_filter.mp h).2
    unfold into at this
    rw [Bool.and_eq_true,List.all_eq_true] at this
    exact .mk fun k hk=>ends k (of_decide_eq_true (this.2 k hk))
  ·rcases Nat.lt_or_ge i es.length with hi | hi
   ·rw [List.getElem?_append_left hi] at ei
    rw [List.take_append_of_le_length (by omega)]
    exact ord i n ei k hk
   ·rw [List.getElem?_append_right hi] at ei
    have:=(List.mem_filter.mp (List.mem_of_getElem? ei)).2
    unfold into at this
    rw [Bool.and_eq_true,List.all_eq_true] at this
    have h3:=of_decide_eq_true (this.2 k hk)
    rw [List.take_append,List.take_of_length_le hi]
    exact mal _ h3
abbrev N_lead_into:List Str:=["led","ending","name","kind"]
theorem sc_lead_into:FnScope N_lead_into ["led","ending"] (defScope s_lead_into):=⟨rfl,rfl,rfl,by decide +kernel,rfl,by decide +kernel,by decide +kernel⟩
theorem ok_lead_into (B:BI mg) (F:Fun K "lead_into" "lead_into" s_lead_into f fd):FnOk P w K mg base CX0 (1) f fd ["led","ending"] (spLeadInto K):=by
 refine F.ok sc_lead_into (fun vs H Q E h=>?_) (fun cdv A outer s H vs Q E hr h=>?_)
 ·obtain ⟨d,e,b,es,kvs,rfl,_⟩:=h
  rfl
 obtain ⟨d,e,b,es,kvs,rfl,hd,hk,he,ok,q⟩:=h
 have hun2:=hunT hr
 refine ⟨_,pss_one (ps_ret (pe_lock (pe_lc (own:=[("name",2)]) (g:=(gName 2)) (tt:=(tAnd (tTest (tOp (rIn K true) (tVar 2) (tVar 1))) (tB (tCB (rAll K) (tCons (tLc (iList K (tDGet (tVar 0) (tVar 2))) (gName 3) tYes (tOp (rIn K false) (tVar 3) (tVar 1)) [3]) tNil))))) (te:=(tVar 2)) rfl sc_lead_into.nd (pi_keys (pv 0)) (blkOk_by (N:=N_lead_into) (sc:=defScope s_lead_into) (by decide +kernel)) (fun _ _ _ _ _=>(pg_name (i:=2) sc_lead_into.nd rfl (.inl rfl))) (fun _ _ _ _ _=>(pts_one (PW.pt (pw_and (pt_cmpR op_notIn_seq (pv 2) (pv 1) (by rfl)) (pw_and1 (pt_val (pe_callB (cr_all rfl) rfl B.all boot_all (pa_cons (pe_lc (own:=[("kind",3)]) (g:=(gName 3)) (tt:=tYes) (te:=(tOp (rIn K false) (tVar 3) (tVar 1))) rfl sc_lead_into.nd (pi_list (pe_dget (by show A.units+3+1 < cLine; omega) (pv 0) (pv 2) (fun _ _=>rfl))) (blkOk_by (N:=N_lead_into) (sc:={ kind:=.function,names:=[(".0",.local),("name",.local),("all",.globalImplicit),("ending",.cell),("led",.cell)],isGenerator:=false,isCoroutine:=false }) (by decide +kernel)) (fun _ _ _ _ _=>(pg_name (i:=3) sc_lead_into.nd rfl (.inl rfl))) (fun _ _ _ _ _=>pts_nil) (fun _ _ _ _ _=>(pe_cmpR op_in_seq (pv 3) (pv 1) (by rfl)))) pa_nil)))))))) (fun _ _ _ _ _=>(pv 2))))),?_⟩
 have szl:=sizeLine_eq
 have b8:=ok.len
 have kl:=hk.length
 refine ⟨d,_,hd,trivial,fun od=>?_⟩
 have hL:∀ l xs,H l=some (.lst xs)->upd H d (.frz od (.dK kvs)) l=some (.lst xs):=fun l xs h=>by rw [upd_ne (fun z=>by rw [z,hd] at h; cases h)]; exact h
 have hkL:=hk.keep hL
 have heL:=hL _ _ he
 have hdL:upd H d (.frz od (.dK kvs)) d=some (.frz od (.dK kvs)):=upd_same
 have un:∀ H',SB [] (upd H d (.frz od (.dK kvs))) H'->SB [] H (upd H' d (.dK kvs)):=fun H' s=>s.unlock hd (fun _ z=>nomatch z) (fun _ _ z=>nomatch z)
 have dm:∀ p,upd H d (.frz od (.dK kvs)) p=none->H p=none:=fun p h=>by
  have z:p ≠ d:=fun z=>by rw [z,upd_same] at h; cases h
  rwa [upd_ne z] at h
 generalize upd H d (.frz od (.dK kvs))=HL at hkL heL hdL un dm
 refine ⟨_,rfl,d,od,rfl,.inl ⟨kvs,hdL,fun D nD=>?_⟩⟩
 refine lc_seq walk_keys nD (by omega) (fun i us _=>us=((b.names.take i).filter (into b es)).map V.str) rfl (fun H2 s2=>s2.frzs _ _ _ hdL) (fun _ _ _ _ _ h=>h) (fun Pv i x Hq H2 us hi s2 y hR hu fin skip=>?_) (fun us H2 s2 hD2 hR hu=>?_)
 ·obtain ⟨rfl,k0,v0,ek,rfl⟩:=y
  obtain ⟨kd,ekd,e0⟩:=hk.get ek
  have e0:k0=Sum.inr kd.n:=e0
  subst e0
  have km:=List.mem_of_getElem? ekd
  have ea:=adj_self ok km
  obtain ⟨l,ss,hv,hl,so⟩:=hkL.val (Bk.get_self ok.nd km)
  have en:b.names[i]?=some kd.n:=by rw [List.getElem?_map,ekd]; rfl
  have he2:=s2.keep _ _ heL nmn
  have hl2:=s2.keep _ _ hl nmn
  have hd2:=s2.frzs _ _ _ hdL
  have hstep:((b.names.take (i+1)).filter (into b es)).map V.str=((b.names.take i).filter (into b es)).map V.str++(if into b es kd.n=true then [V.str kd.n] else []):=by
   rw [List.take_add_one,en,List.filter_append,List.map_append]
   congr 1
   by_cases z:into b es kd.n=true
   ·simp [z]
   ·simp [z]
  refine ⟨rfl,_,rfl,_,rfl,e,_,rfl,.inl (SqL.of he2),rfl,flat_strs _,_,rfl,?_⟩
  rw [if_pos rfl]
  show if (!inV (.str kd.n) (es.map V.str))=true then _ else _
  rw [inV_strs]
  by_cases h1:kd.n ∈ es
  ·rw [show (!decide (kd.n ∈ es))=false by simp [h1]]
   refine iteF (skip _ SB.refl ?_)
   rw [hstep,show into b es kd.n=false by simp [into,h1],hR]; simp
  ·rw [show (!decide (kd.n ∈ es))=true by simp [h1]]
   refine iteT ?_
   have sl:ss.length < 1000:=by
    have h2:=so.nd.length_le_of_subset (l₂:=b.names) fun x hx=>ok.led km x ((so.mem x).mp hx)
    rw [List.length_map] at h2
    omega
   refine ⟨_,rfl,_,rfl,d,.ref l,rfl,getKR (.inr ⟨_,hd2⟩) hv,l,rfl,⟨_,SqL.of hl2⟩,fun D2 nD2=>?_⟩
   refine lc_seq (walk_list (xs:=ss.map V.str)) nD2 (by rw [List.length_map]; omega) (fun j us _=>us=((ss.take j).map fun k=>decide (k ∈ es)).map V.bl) rfl (fun H4 s4=>s4.sqL nmn (SqL.of hl2)) (fun _ _ _ _ _ h=>h) (fun Pv j z Hq H4 us4 hj s4 y hR4 hu4 fin4 _=>?_) (fun us4 H4 s4 hD4 hR4 hu4=>?_)
   ·obtain ⟨rfl,ez⟩:=y
    rw [List.getElem?_map] at ez
    obtain ⟨sx,ex,rfl⟩:=Option.map_eq_some_iff.mp ez
    refine ⟨rfl,_,rfl,_,rfl,e,_,rfl,.inl (SqL.of (s4.keep _ _ he2 nmn)),rfl,flat_strs _,?_⟩
    refine fin4 _ _ SB.refl ?_
    rw [hR4,List.take_add_one,ex]
    simp [inV_strs]
   ·subst hR4
    refine ⟨D2,_,rfl,SqL.of hD4,_,rfl,?_⟩
    have eall:((ss.take (ss.map V.str).length).map fun k=>decide (k ∈ es)).all id=(adj b kd.n).all fun k=>decide (k ∈ es):=by
     rw [List.length_map,List.take_length,List.all_map,ea,<- all_srt so]; rfl
    rw [eall]
    have ei:into b es kd.n=(adj b kd.n).all fun k=>decide (k ∈ es):=by unfold into; simp [h1]
    by_cases h3:((adj b kd.n).all fun k=>decide (k ∈ es))=true
    ·rw [h3]
     refine iteT ⟨_,rfl,fin _ _ s4 ?_⟩
     rw [hstep,ei,h3,hR]; rfl
    ·have h3:((adj b kd.n).all fun k=>decide (k ∈ es))=false:=by simpa using h3
     rw [h3]
     refine iteF (skip _ s4 ?_)
     rw [hstep,ei,h3,hR]; simp
 ·subst hR
  have hd2:=s2.frzs _ _ _ hdL
  have Dd:D ≠ d:=fun z=>by rw [z,hdL] at nD; cases nD
  refine ⟨hd2,q D _ (un _ s2) (dm _ nD) ?_⟩
  rw [upd_ne Dd,hD2,kl,<- show b.names.length=b.length from List.length_map ..,List.take_length]
abbrev N_endless_kinds:List Str:=["book","ending","name"]
theorem sc_endless_kinds:FnScope N_endless_kinds ["book"] (defScope s_endless_kinds):=⟨rfl,rfl,rfl,by decide +kernel,rfl,by decide +kernel,by decide +kernel⟩
theorem ok_endless_kinds {C_Book C_NoKind:Addr} (B:BI mg) (G_ending_kinds:Got P w K mg base "ending_kinds" ["book"] (24) (spEndingO K C_Book C_NoKind)) (G_Book_names:GotM P w K mg base C_Book "names" ["self"] (1) (spBNames K C_Book)) (F:Fun K "endless_kinds" "endless_kinds" s_endless_kinds f fd):FnOk P w K mg base CX0 (25) f fd ["book"] (spEndless K C_Book C_NoKind):=by
 refine F.ok sc_endless_kinds (fun vs H Q E h=>?_) (fun cdv A outer s H vs Q E hr h=>?_)
 ·obtain ⟨v,b,rfl,_⟩:=h
  rfl
 obtain ⟨v,b,rfl,hv,ok,q⟩:=h
 have hun2:=hunT hr
 refine ⟨_,pss_cons (ps_set (i:=1) sc_endless_kinds.nd rfl (.inr rfl) (pe_got G_ending_kinds (hr.mono (by omega)) rfl (pa_cons (pv 0) pa_nil)))
  (pss_one (ps_ret (pe_callB cr_sortedS rfl B.sorted (by decide +kernel) (pa_cons (pe_lc (own:=[("name",2)]) (g:=(gName 2)) (tt:=(tTest (tOp (rIn K true) (tVar 2) (tVar 1)))) (te:=(tVar 2)) rfl sc_endless_kinds.nd (pi_list (pe_gotM0 G_Book_names (hr.mono (by omega)) (pv 0))) (blkOk_by (N:=N_endless_kinds) (sc:=defScope s_endless_kinds) (by decide +kernel)) (fun _ _ _ _ _=>(pg_name (i:=2) sc_endless_kinds.nd rfl (.inl rfl))) (fun _ _ _ _ _=>(pts_one (pt_cmpR op_notIn_seq (pv 2) (pv 1) (by rfl)))) (fun _ _ _ _ _=>(pv 2))) pa_nil)))),?_⟩
 have szl:=sizeLine_eq
 have b8:=ok.len
 refine ⟨_,rfl,v,b,rfl,hv,ok,fun l es H1 s1 nl hl eo=>?_⟩
 have el:=eo.len
 have hm:∀ n ∈ b.names,n ∈ es ↔ EndK b n:=fun n hn=>⟨fun h=>((eo.mem n).mp h).2,fun h=>(eo.mem n).mpr ⟨hn,h⟩⟩
 obtain ⟨va,vdx,vd1,vd2,rfl,hva⟩:=hv.at
 refine ⟨_,rfl,va,vdx,_,rfl,s1.keep _ _ hva nmn,rfl,?_⟩
 refine ⟨_,b,rfl,hv.sb0 s1,by omega,fun nl2 H2 s2 nn hn=>?_⟩
 have hl2:=s2.keep _ _ hl nmn
 refine ⟨nl2,rfl,⟨_,SqL.of hn⟩,fun D nD=>?_⟩
 have nml:b.names.length=b.length:=List.length_map ..
 refine lc_seq (walk_list (xs:=b.names.map V.str)) nD (by rw [List.length_map]; omega) (fun i us _=>us=((b.names.take i).filter fun n=>decide (n ∉ es)).map V.str) rfl (fun H3 s3=>s3.sqL nmn (SqL.of hn)) (fun _ _ _ _ _ h=>h) (fun Pv i x Hq H3 us hi s3 y hR hu fin skip=>?_) (fun us H3 s3 hD3 hR hu=>?_)
 ·obtain ⟨rfl,ey⟩:=y
  rw [List.getElem?_map] at ey
  obtain ⟨n,en,rfl⟩:=Option.map_eq_some_iff.mp ey
  refine ⟨rfl,_,rfl,_,rfl,l,_,rfl,.inl (SqL.of (s3.keep _ _ hl2 nmn)),rfl,flat_strs _,_,rfl,?_⟩
  rw [if_pos rfl,inV_strs]
  have hstep:((b.names.take (i+1)).filter fun n=>decide (n ∉ es)).map V.str=((b.names.take i).filter fun n=>decide (n ∉ es)).map V.str++(if n ∉ es then [V.str n] else []):=by
   rw [List.take_add_one,en,List.filter_append,List.map_append]
   congr 1
   by_cases z:n ∈ es
   ·simp [z]
   ·simp [z]
  by_cases h1:n ∈ es
  ·rw [show (!decide (n ∈ es))=false by simp [h1]]
   refine iteF (skip _ SB.refl ?_)
   rw [hstep,if_neg (by simp [h1]),hR]; simp
  ·rw [show (!decide (n ∈ es))=true by simp [h1]]
   refine iteT ⟨_,rfl,fin _ _ SB.refl ?_⟩
   rw [hstep,if_pos h1,hR]
 ·rw [List.length_map,List.take_length] at hR
  subst hR
  refine ⟨D,_,rfl,SqL.of hD3,?_,fun ys p pm srt np=>?_⟩
  ·have:=List.length_filter_le (fun n=>decide (n ∉ es)) b.names
   omega
  have s03:=(s1.trans s2).trans s3
  refine q p ys _ (s03.trans (SB.new (ps:=[]) np _)) (s03.dom _ np) upd_same srt (pm.nodup_iff.mpr (ok.nd.filter _)) fun n=>?_
  rw [pm.mem_iff,List.mem_filter]
  simp only [decide_eq_true_eq]
  exact ⟨fun ⟨h1,h2⟩=>⟨h1,fun z=>h2 ((hm n h1).mpr z)⟩,fun ⟨h1,h2⟩=>⟨h1,fun z=>h2 ((hm n h1).mp z)⟩⟩
abbrev N_check_ends:List Str:=["book","grove","endless","kind"]
theorem sc_check_ends:FnScope N_check_ends ["book","grove"] (defScope s_check_ends):=⟨rfl,rfl,rfl,by decide +kernel,rfl,by decide +kernel,by decide +kernel⟩
theorem ok_check_ends {C_Endless C_Book C_NoKind:Addr} (B:BI mg) (O_Endless:OwnI P w K mg base "Endless" C_Endless 1) (G_endless_kinds:Got P w K mg base "endless_kinds" ["book"] (25) (spEndless K C_Book C_NoKind)) (G_kinds_within:Got P w K mg base "kinds_within" ["grove"] (71) (spKindsF K)) (F:Fun K "check_ends" "check_ends" s_check_ends f fd):FnOk P w K mg base (L2.CX P w) (72) f fd ["book","grove"] (spChkEX K C_Book C_NoKind C_Endless):=by
 refine F.okX sc_check_ends (fun vs H Q E h=>?_) (fun cdv A outer s H vs Q E hr h=>?_)
 ·obtain ⟨v,w,b,g,rfl,_⟩:=h
  rfl
 obtain ⟨v,w,b,g,rfl,hv,ok,hg,hd,hp,hk,q,qE⟩:=h
 have hun2:=hunT hr
 refine ⟨_,pss_cons (ps_set (i:=2) sc_check_ends.nd rfl (.inl rfl) (pe_got G_endless_kinds (hr.mono (by omega)) rfl (pa_cons (pv 0) pa_nil)))
  (pss_one (ps_for (passes_of rfl) rfl (pi_list (pe_got G_kinds_within (hr.mono (by omega)) rfl (pa_cons (pv 1) pa_nil))) (pg_name (i:=3) sc_check_ends.nd rfl (.inl rfl))
   (pss_one (ps_if (pt_cmpR op_in_seq (pv 3) (pv 2) (by rfl)) (pss_one (ps_raise rfl (takes_of rfl rfl rfl rfl) (pmk_kind O_Endless (hr.mono (by omega)) rfl (pv 3)))) pss_nil)))),?_⟩
 refine ⟨_,rfl,v,b,rfl,hv,ok,fun l ss H1 s1 nl hl srt nd hm=>?_⟩
 refine ⟨_,rfl,w,g,b.names,rfl,hg.sb s1,hd,hp,hk,by rw [List.length_map]; have:=ok.len; omega,fun l2 ss2 H2 s2 nl2 hl2 so sl=>?_⟩
 refine ⟨l2,rfl,⟨_,SqL.of hl2⟩,?_⟩
 have hl3:=s2.keep _ _ hl nmn
 have s02:=s1.trans s2
 refine for_it (walk_list (xs:=ss2.map V.str)) (fun i σ H3=>SB [] H2 H3/\(∀ m ∈ ss2.take i,¬ ¬ EndK b m)/\∃ o3,σ=[some v,some w,some (.ref l),o3]) ⟨SB.refl,by simp,none,rfl⟩ (fun i σ H3 hi h3=>h3.1.sqL nmn (SqL.of hl2)) (fun i x σ Hq H3 hi h3 y=>?_) (fun σ H3 h3=>?_)
 ·obtain ⟨s3,bef,o3,rfl⟩:=h3
  obtain ⟨rfl,ey⟩:=y
  rw [List.getElem?_map] at ey
  obtain ⟨k,ek,rfl⟩:=Option.map_eq_some_iff.mp ey
  obtain ⟨p,hp2,e⟩:=List.mem_map.mp ((so.mem k).mp (List.mem_of_getElem? ek))
  have kb:k ∈ b.names:=e ▸ hk p hp2
  refine ⟨_,rfl,_,rfl,l,_,rfl,.inl (SqL.of (s3.keep _ _ hl3 nmn)),rfl,flat_strs _,?_⟩
  rw [inV_strs]
  by_cases he:EndK b k
  ·rw [show decide (k ∈ ss)=false from decide_eq_false fun z=>((hm k).mp z).2 he]
   refine ⟨_,rfl,iteF ⟨s3,fun m hm2=>?_,_,rfl⟩⟩
   rw [List.take_add_one,ek] at hm2
   rcases List.mem_append.mp hm2 with z | z
   ·exact bef m z
   ·rw [List.mem_singleton.mp z]; exact fun z=>z he
  ·rw [show decide (k ∈ ss)=true from decide_eq_true ((hm k).mpr ⟨kb,he⟩)]
   refine ⟨_,rfl,iteT ⟨_,rfl,fun x nx=>?_⟩⟩
   have s03:=s02.trans s3
   exact qE k (.at so ek he bef) x _ (s03.trans (SB.new nx _)) (s03.dom _ nx) upd_same
 ·obtain ⟨s3,bef,o3,rfl⟩:=h3
  rw [List.length_map,List.take_length] at bef
  exact q (fun x hx=>Classical.byContradiction fun z=>bef x.1.1 ((so.mem _).mpr (List.mem_map.mpr ⟨x,hx,rfl⟩)) z) _ (s02.trans s3)
end
section
variable {P:Program} {w:World} {K:PySem.W.Frag} {mg:Str->Option Value} {base:Heap} {f:Addr} {fd:FuncData} {ps:List Addr}
theorem sc_number:FnScope ["many"] ["many"] (defScope s_number):=⟨rfl,rfl,rfl,by decide +kernel,rfl,by decide +kernel,by decide +kernel⟩
theorem ok_number (F:Fun K "number" "number" s_number f fd):FnOk P w K mg base CX0 1 f fd ["many"] (spNumber K):=by
 refine F.ok sc_number (fun vs H Q E h=>?_) (fun cdv A outer s H vs Q E hr h=>?_)
 ·obtain ⟨v,rfl,_⟩:=h
  rfl
 obtain ⟨i,rfl,q⟩:=h
 refine ⟨_,pss_cons (ps_if (pt_cmpR op_eq (pv 0) pe_int (nomark _)) (pss_one (ps_ret (pe_tup pa_nil))) pss_nil)
  (pss_one (ps_ret (pe_tup (pa_cons (pe_tup (pa_cons (pe_tup pa_nil) (pa_cons (pv 0) pa_nil))) pa_nil)))),?_⟩
 refine ⟨_,rfl,rfl,_,rfl,?_⟩
 refine ite2 (fun c=>?_) (fun c=>?_)
 ·have c':V.int i=V.int 0:=of_decide_eq_true c
  injection c' with c'
  subst c'
  refine ⟨(by show 0<=sizeLine; decide),fun p hp=>?_⟩
  exact q _ _ (SB.new hp _) (LA_nil (SqT.of upd_same))
 ·have c':¬ V.int i=V.int 0:=of_decide_eq_false (Bool.eq_false_iff.mpr c)
  have c2:¬ i=0:=fun z=>c' (by rw [z])
  refine ⟨(by show 0<=sizeLine; decide),fun p1 h1=>?_⟩
  refine ⟨_,rfl,(by show 2<=sizeLine; decide),fun p2 h2=>?_⟩
  refine ⟨(by show 1<=sizeLine; decide),fun p3 h3=>?_⟩
  have e1:SB [] H (upd H p1 (.tup [])):=SB.new h1 _
  have e2:=SB.new (ps:=[]) h2 (.tup [.ref p1,.int i])
  have e3:=SB.new (ps:=[]) h3 (.tup [.ref p2])
  refine q _ _ (e1.trans (e2.trans e3)) ?_
  have e:Lad.num i=.cons .nil i .nil:=if_neg c2
  rw [e]
  exact LA_one (SqT.of upd_same) (e3.sqT (SqT.of upd_same)) ((LA_nil (SqT.of upd_same)).sb (e2.trans e3))
end
section
variable {P:Program} {w:World} {K:PySem.W.Frag} {mg:Str->Option Value} {base:Heap} {f:Addr} {fd:FuncData} {ps:List Addr}
theorem sc_is_less:FnScope ["one","other"] ["one","other"] (defScope s_is_less):=⟨rfl,rfl,rfl,by decide +kernel,rfl,by decide +kernel,by decide +kernel⟩
theorem ok_is_less (F:Fun K "is_less" "is_less" s_is_less f fd):FnOk P w K mg base CX0 1 f fd ["one","other"] (spLess K):=by
 refine F.ok sc_is_less (fun vs H Q E h=>?_) (fun cdv A outer s H vs Q E hr h=>?_)
 ·obtain ⟨v,u,l,k,rfl,_⟩:=h
  rfl
 obtain ⟨v,u,l,k,rfl,hv,hu,hd,q⟩:=h
 refine ⟨_,pss_one (ps_ret (pe_cmpR (op_ltD (by have:=hr.un; show A.units+3+100 < cLine; have h3:(A.deeper (envOfC "is_less" (defScope s_is_less) s.heap.objs.size f cdv)).units=A.units+3:=rfl; omega)) (pv 0) (pv 1) (nomark _))),?_⟩
 have:=l.enc_depth
 exact ⟨_,rfl,_,rfl,l.enc,k.enc,hv,hu,l.alike_enc k,l.enc_ne,by omega,q⟩
end
section
variable {P:Program} {w:World} {K:PySem.W.Frag} {mg:Str->Option Value} {base:Heap} {f:Addr} {fd:FuncData}
abbrev N_behind:List Str:=["one","other","exponent","many","kept","alike","pair"]
theorem sc_behind:FnScope N_behind ["one","other"] (defScope s_behind):=⟨rfl,rfl,rfl,by decide +kernel,rfl,by decide +kernel,by decide +kernel⟩
theorem ok_behind (B:BI mg) (GL:Got P w K mg base "is_less" ["one","other"] 1 (spLess K)) (GM:Got P w K mg base "many_at" ["pairs","thing"] 1 (spManyAt K)) (F:Fun K "behind" "behind" s_behind f fd):FnOk P w K mg base CX0 2 f fd ["one","other"] (spBehind K):=by
 refine F.ok sc_behind (fun vs H Q E h=>?_) (fun cdv A outer s H vs Q E hr h=>?_)
 ·obtain ⟨v,u,l,k,rfl,_⟩:=h
  rfl
 obtain ⟨v,u,l,k,rfl,hv,hu,hd,hd2,hp,hp2,q⟩:=h
 refine ⟨_,pss_cons (ps_if (pt_not (pt_truth (pv 1) (by intro _; rfl))) (pss_one (ps_ret (pv 0))) pss_nil)
  (pss_cons (ps_asg (pe_ix ix_tup (pv 1) pe_int (fun _ _=>rfl)) (pg_tup rfl (pgs_cons (pg_name (i:=2) sc_behind.nd rfl (.inr rfl)) (pgs_cons (pg_name (i:=3) sc_behind.nd rfl (.inl rfl)) pgs_nil))))
  (pss_cons (ps_set (i:=4) sc_behind.nd rfl (.inl rfl) (pe_callTy call_tuple_of rfl B.tuple boot_tuple (pa_cons
   (pe_lc (own:=[("pair",6)]) (g:=gName 6) (tt:=tB (tCall (spLess K) [] E0 (tCons (tVar 2) (tCons (tOp (rIxT K) (tVar 6) (tC (.int 0))) tNil)))) (te:=tVar 6) rfl sc_behind.nd (pi_tup (pv 0))
    (blkOk_by (N:=N_behind) (sc:=defScope s_behind) (by decide +kernel))
    (fun _ _ _ _ _=>pg_name (i:=6) sc_behind.nd rfl (.inl rfl))
    (fun _ _ _ _ _=>pts_one (pt_val (pe_got GL hr rfl (pa_cons (pv 2) (pa_cons (pe_ix ix_tup (pv 6) pe_int (fun _ _=>rfl)) pa_nil)))))
    (fun _ _ _ _ _=>pv 6)) pa_nil)))
  (pss_cons (ps_set (i:=5) sc_behind.nd rfl (.inl rfl) (pe_got GM hr rfl (pa_cons (pv 0) (pa_cons (pv 2) pa_nil))))
  (pss_one (ps_ret (pe_op op_catB (pe_op op_catB (pv 4) (pe_tup (pa_cons (pe_tup (pa_cons (pv 2) (pa_cons (pe_op op_add (pv 5) (pv 3)) pa_nil))) pa_nil))) (pe_slice sl_tupB (pv 1) (po_some pe_int) po_none))))))),?_⟩
 obtain ⟨b,ys,rfl,hsb,hbb⟩:=LA_bears hu
 refine ⟨_,rfl,_,.inr (.inl ⟨ys,hsb,rfl⟩),?_⟩
 cases k with
 | nil =>
  cases hbb
  refine iteT ?_
  exact ⟨_,rfl,q v H SB.refl hv⟩
 | cons e m r =>
  rw [show (Lad.cons e m r).ps=(e,m)::r.ps from rfl] at hbb
  cases hbb with
  | @cons y0 yr _ _ h0 hbr =>
  refine iteF ?_
  obtain ⟨c,ue,rfl,hsc,hle⟩:=LA_pair h0
  refine ⟨_,rfl,b,_,_,_,rfl,rfl,hsb,atI_nat (j:=0) rfl,c,_,rfl,hsc,rfl,_,_,rfl,_,_,rfl,rfl,?_⟩
  obtain ⟨a,xs,rfl,hsa,hba⟩:=LA_bears hv
  have bl:=hba.length
  have lp:=l.len_parts
  rw [<- Lad.ps_length] at lp
  have ed:e.deep < (Lad.cons e m r).deep:=Lad.mem_deep (.cons e m r) (e,m) (mcs ..)
  refine ⟨_,rfl,a,rfl,⟨xs,hsa⟩,fun D hD=>?_⟩
  refine lc_it (walk_tup (xs:=xs)) (fun i H2=>SB [D] H H2/\∃ acc,H2 D=some (.lst acc)/\Bears K H2 Lad.pEnc acc ((l.ps.take i).filter fun p=>e.lt p.1)) ⟨SB.new hD _,[],upd_same,.nil⟩ (fun i H2 hi h2=>(h2.1.drop hD).sqT hsa) (fun i x H2 H' hi h2 y=>?_) (fun H2 h2=>?_)
  ·obtain ⟨s2,acc,hD2,hb2⟩:=h2
   obtain ⟨rfl,ex⟩:=y
   have s2':=s2.drop hD
   obtain ⟨b1,eb,hbd⟩:=hba.get ex
   obtain ⟨ad,ux,rfl,hs2,hla⟩:=LA_pair hbd
   refine ⟨rfl,?_⟩
   refine ⟨_,rfl,_,rfl,ad,_,_,_,rfl,rfl,s2'.sqT hs2,atI_nat (j:=0) rfl,ue,ux,e,b1.1,rfl,hle.sb s2',hla.sb s2',by omega,_,rfl,?_⟩
   have al:=hb2.length
   have fl:=List.length_filter_le (fun p:Lad × Int=>e.lt p.1) (l.ps.take i)
   rw [List.length_take] at fl
   cases hc:e.lt b1.1 with
   | true =>
    refine iteT ?_
    refine ⟨_,rfl,acc,hD2,small1000 (by omega),?_⟩
    have t9:=SB.set (ps:=[D]) hD2 (by simp) (.lst (acc++[.ref ad]))
    refine ⟨s2.trans t9,_,upd_same,?_⟩
    rw [List.take_add_one,eb,List.filter_append]
    refine Bears.append (hb2.sb t9 Lad.pEnc_noList) ?_
    have:([b1]:List (Lad × Int)).filter (fun p=>e.lt p.1)=[b1]:=by simp [hc]
    show Bears K _ Lad.pEnc _ (([b1]:List (Lad × Int)).filter (fun p=>e.lt p.1))
    rw [this]
    exact .cons (Dp_sb t9 _ _ (Lad.pEnc_noList _) (Dp_sb s2' _ _ (Lad.pEnc_noList _) hbd)) .nil
   | false =>
    refine iteF ?_
    refine ⟨s2,acc,hD2,?_⟩
    rw [List.take_add_one,eb,List.filter_append]
    simpa [hc] using hb2
  ·obtain ⟨s2,acc,hD2,hb2⟩:=h2
   rw [bl,List.take_length] at hb2
   have s2':=s2.drop hD
   refine ⟨D,acc,rfl,.inl ⟨SqL.of hD2,fun kt hkt=>?_⟩⟩
   have s3:=SB.new (ps:=[]) hkt (.tup acc)
   have s23:=s2'.trans s3
   refine ⟨_,rfl,_,rfl,_,ue,l,e,rfl,hv.sb s23,hle.sb s23,by omega,by omega,by omega,fun H4 s4=>?_⟩
   refine ⟨_,rfl,_,rfl,_,rfl,_,rfl,_,_,rfl,rfl,(by show 2<=sizeLine; decide),fun t1 ht1=>?_⟩
   have s5:=SB.new (ps:=[]) ht1 (.tup [ue,.int (Lad.sumAt l.ps e+m)])
   refine ⟨(by show 1<=sizeLine; decide),fun t2 ht2=>?_⟩
   have s6:=SB.new (ps:=[]) ht2 (.tup [.ref t1])
   have al:=hb2.length
   have fl:=List.length_filter_le (fun p:Lad × Int=>e.lt p.1) l.ps
   refine ⟨kt,t2,_,_,rfl,rfl,((s4.trans s5).trans s6).sqT (SqT.of upd_same),SqT.of upd_same,by rw [List.length_singleton]; omega,fun c1 H7 s7 hc1=>?_⟩
   have s47:=((s4.trans s5).trans s6).trans s7
   refine ⟨_,rfl,1,rfl,b,_,rfl,(s23.trans s47).sqT hsb,fun c2 H8 s8 hc2=>?_⟩
   have e1:cutV (V.ref c::yr) (some 1) none=yr:=by
    have:=cutDrop (V.ref c::yr) 1
    exact this
   rw [e1] at hc2
   have rl:=hbr.length
   have rp:=(Lad.cons e m r).len_parts
   have rp2:r.ps.length+1=(Lad.cons e m r).len:=by rw [<- Lad.ps_length]; rfl
   refine ⟨c1,c2,_,_,rfl,rfl,s8.sqT hc1,hc2,by rw [List.length_append,List.length_singleton]; omega,fun c3 H9 s9 hc3=>?_⟩
   refine q _ _ (((s23.trans s47).trans s8).trans s9) ?_
   rw [Lad.bhd_cons]
   refine Bears_la hc3 ?_
   have z1:SB [] _ H9:=(s3.trans s47).trans (s8.trans s9)
   have z2:SB [] _ H9:=(s6.trans s7).trans (s8.trans s9)
   rw [List.append_assoc]
   refine Bears.append (hb2.sb z1 Lad.pEnc_noList) (.cons ?_ (hbr.sb ((s23.trans s47).trans (s8.trans s9)) Lad.pEnc_noList))
   exact Dp.tup (z2.sqT (SqT.of upd_same)) (.cons (hle.sb (((s23.trans s47).trans s8).trans s9)) (.cons (.int _) .nil))
theorem sc_both:FnScope ["one","other"] ["one","other"] (defScope s_both):=⟨rfl,rfl,rfl,by decide +kernel,rfl,by decide +kernel,by decide +kernel⟩
theorem ok_both (G:Got P w K mg base "all_together" ["some"] 2 (spAllT K)) (F:Fun K "both" "both" s_both f fd):FnOk P w K mg base CX0 3 f fd ["one","other"] (spBoth K):=by
 refine F.ok sc_both (fun vs H Q E h=>?_) (fun cdv A outer s H vs Q E hr h=>?_)
 ·obtain ⟨v,u,l,k,rfl,_⟩:=h
  rfl
 obtain ⟨v,u,l,k,rfl,hv,hu,hd,hd2,hp,hp2,q⟩:=h
 refine ⟨_,pss_one (ps_ret (pe_got G hr rfl (pa_cons (pe_lst (pa_cons (pv 0) (pa_cons (pv 1) pa_nil))) pa_nil))),?_⟩
 have lp:=l.len_parts
 have kp:=k.len_parts
 rw [<- Lad.ps_length] at lp kp
 refine ⟨_,rfl,_,rfl,(by show 2<=sizeLine; decide),fun p hp=>?_⟩
 have s1:=SB.new (ps:=[]) hp (.lst [v,u])
 refine ⟨p,_,[l,k],rfl,SqL.of upd_same,.cons (hv.sb s1) (.cons (hu.sb s1) .nil),fun x hx=>?_,by simp; omega,fun x H' s2 hx=>?_⟩
 ·simp at hx
  rcases hx with rfl | rfl <;> assumption
 ·rw [Lad.bths_two] at hx
  exact q _ _ (s1.trans s2) hx
abbrev N_allt:List Str:=["some","pairs","ladder","pair"]
theorem sc_all_together:FnScope N_allt ["some"] (defScope s_all_together):=⟨rfl,rfl,rfl,by decide +kernel,rfl,by decide +kernel,by decide +kernel⟩
theorem ok_all_together (B:BI mg) (G:Got P w K mg base "joined" ["pairs"] 1 (spJoined K Lad.enc)) (F:Fun K "all_together" "all_together" s_all_together f fd):FnOk P w K mg base CX0 2 f fd ["some"] (spAllT K):=by
 refine F.ok sc_all_together (fun vs H Q E h=>?_) (fun cdv A outer s H vs Q E hr h=>?_)
 ·obtain ⟨a,xs,ls,rfl,_⟩:=h
  rfl
 obtain ⟨a,xs,ls,rfl,hs,hb,hd,hn,q⟩:=h
 have hun2:=hunT hr
 refine ⟨_,pss_cons (ps_setLc2 (i:=1) (own:=[("ladder",2),("pair",3)]) (vs1:=[3]) (wi1:=iTup K (tVar 2)) (g:=gName 2) (g1:=gName 3) (tt:=tYes) (tt1:=tYes) (te:=tVar 3) rfl sc_all_together.nd rfl rfl (sw_true rfl rfl rfl (by decide +kernel)) (pi_list (pv 0))
   (blkOk_by (N:=N_allt) (sc:=defScope s_all_together) (by decide +kernel)) (by simp)
   (fun _ _ _ _ _=>pg_name (i:=2) sc_all_together.nd rfl (.inl rfl)) (fun _ _ _ _ _=>pts_nil)
   (fun _ _ _ _ _=>pi_tup (pv 2)) (fun _ _ _ _ _=>pg_name (i:=3) sc_all_together.nd rfl (.inl rfl)) (fun _ _ _ _ _=>pts_nil) (fun _ _ _ _ _=>pv 3))
  (pss_one (ps_ret (pe_got G hr rfl (pa_cons (pe_callBK (cr_sortedLR Lad.pEnc (b:=true) (by show A.units+3+110 < cLine; omega)) rfl B.sorted (by decide +kernel) (pa_cons (pv 1) pa_nil) (pk_cons pe_bl pk_nil)) pa_nil)))),?_⟩
 have xl:=hb.length
 refine ⟨_,rfl,a,rfl,⟨xs,hs⟩,fun D hD=>?_⟩
 refine lcG (walk_list (xs:=xs)) (fun i H2=>SB [D] H H2/\∃ acc,H2 D=some (.lst acc)/\Bears K H Lad.pEnc acc ((ls.take i).flatMap Lad.ps)) ⟨SB.new hD _,[],upd_same,.nil⟩ (fun i H2 hi h2=>(h2.1.drop hD).sqL nmn hs) (fun i x H2 H' hi h2 y=>?_) (fun H2 h2=>?_)
 ·obtain ⟨s2,acc,hD2,hacc⟩:=h2
  obtain ⟨rfl,ex⟩:=y
  obtain ⟨l,el,hl⟩:=hb.get ex
  obtain ⟨c,ys,rfl,hsc,hbc⟩:=LA_bears hl
  have yl:=hbc.length
  refine ⟨rfl,?_⟩
  refine ⟨_,rfl,c,rfl,⟨ys,(s2.drop hD).sqT hsc⟩,?_⟩
  have hsplit:(ls.take (i+1)).flatMap Lad.ps=(ls.take i).flatMap Lad.ps++l.ps:=by rw [List.take_add_one,el]; simp
  have hle:((ls.take (i+1)).flatMap Lad.ps).length<=1900000:=by
   have h1:ls.flatMap Lad.ps=(ls.take (i+1)).flatMap Lad.ps++(ls.drop (i+1)).flatMap Lad.ps:=by rw [<- List.flatMap_append,List.take_append_drop]
   rw [h1,List.length_append] at hn
   omega
  refine lcG (walk_tup (xs:=ys)) (fun j H3=>SB [D] H H3/\∃ acc,H3 D=some (.lst acc)/\Bears K H Lad.pEnc acc ((ls.take i).flatMap Lad.ps++l.ps.take j)) ⟨s2,acc,hD2,by simpa using hacc⟩ (fun j H3 hj h3=>(h3.1.drop hD).sqT hsc) (fun j x H3 H4 hj h3 y=>?_) (fun H3 h3=>?_)
  ·obtain ⟨s3,acc3,hD3,hacc3⟩:=h3
   obtain ⟨rfl,ex⟩:=y
   obtain ⟨p,ep,hp⟩:=hbc.get ex
   refine ⟨rfl,?_⟩
   refine ⟨_,rfl,acc3,hD3,?_,s3.trans (SB.set hD3 (by simp) _),_,upd_same,?_⟩
   ·rw [hacc3.length]
    rw [hsplit] at hle
    refine small1000 ?_
    rw [List.length_append,List.length_take] at *
    omega
   ·rw [List.take_add_one,ep,<- List.append_assoc]
    exact Bears.append hacc3 (.cons hp .nil)
  ·obtain ⟨s3,acc3,hD3,hacc3⟩:=h3
   refine ⟨s3,acc3,hD3,?_⟩
   rw [hsplit]
   rw [yl,List.take_length] at hacc3
   exact hacc3
 ·obtain ⟨s2,acc,hD2,hacc⟩:=h2
  rw [xl,List.take_length] at hacc
  have s2':=s2.drop hD
  refine ⟨_,rfl,rfl,D,_,ls.flatMap Lad.ps,rfl,SqL.of hD2,hacc.sb s2' Lad.pEnc_noList,Lad.pEnc_all _,Lad.pEnc_sortable _,by omega,fun p hp=>?_,fun p zs hp hz=>?_⟩
  ·have:=Lad.pEnc_depth p
   obtain ⟨l,hl,hp⟩:=List.mem_flatMap.mp hp
   have:=hd l hl
   have:=l.mem_deep p hp
   omega
  have s3:=SB.new (ps:=[]) hp (.lst zs)
  refine ⟨p,zs,Lad.dsc (ls.flatMap Lad.ps),rfl,SqL.of upd_same,hz.sb s3 Lad.pEnc_noList,?_,fun b hb=>?_,fun c2 ws H3 s4 hc2 hb3=>?_⟩
  ·rw [(Lad.dsc_perm _).length_eq]; omega
  ·refine Lad.shaped_enc ?_
   obtain ⟨l,hl,hp⟩:=List.mem_flatMap.mp ((Lad.dsc_perm _).mem_iff.mp hb)
   have:=hd l hl
   have:=l.mem_deep b hp
   omega
  ·exact q _ _ ((s2'.trans s3).trans s4) (Bears_la hc2 hb3)
abbrev N_manyof:List Str:=["ladder","many","pair"]
theorem sc_many_of:FnScope N_manyof ["ladder","many"] (defScope s_many_of):=⟨rfl,rfl,rfl,by decide +kernel,rfl,by decide +kernel,by decide +kernel⟩
theorem ok_many_of (B:BI mg) (F:Fun K "many_of" "many_of" s_many_of f fd):FnOk P w K mg base CX0 1 f fd ["ladder","many"] (spManyOf K):=by
 refine F.ok sc_many_of (fun vs H Q E h=>?_) (fun cdv A outer s H vs Q E hr h=>?_)
 ·obtain ⟨v,l,m,rfl,_⟩:=h
  rfl
 obtain ⟨v,l,m,rfl,hv,hp,hsz,hm0,hm1,q⟩:=h
 refine ⟨_,pss_cons (ps_if (pt_cmpR op_eq (pv 1) pe_int (nomark _)) (pss_one (ps_ret (pe_tup pa_nil))) pss_nil)
  (pss_one (ps_ret (pe_callTy call_tuple_of rfl B.tuple boot_tuple (pa_cons
   (pe_lc (own:=[("pair",2)]) (g:=gName 2) (tt:=tYes) (te:=tTup (tCons (tOp (rIxT K) (tVar 2) (tC (.int 0))) (tCons (tOp (rI CMulW fun i j=>.int (i*j)) (tOp (rIxT K) (tVar 2) (tC (.int 1))) (tVar 1)) tNil))) rfl sc_many_of.nd (pi_tup (pv 0))
    (blkOk_by (N:=N_manyof) (sc:=defScope s_many_of) (by decide +kernel))
    (fun _ _ _ _ _=>pg_name (i:=2) sc_many_of.nd rfl (.inl rfl))
    (fun _ _ _ _ _=>pts_nil)
    (fun _ _ _ _ _=>pe_tup (pa_cons (pe_ix ix_tup (pv 2) pe_int (fun _ _=>rfl)) (pa_cons (pe_op op_mulW (pe_ix ix_tup (pv 2) pe_int (fun _ _=>rfl)) (pv 1)) pa_nil)))) pa_nil)))),?_⟩
 refine ⟨_,rfl,rfl,_,rfl,?_⟩
 refine ite2 (fun c=>?_) (fun c=>?_)
 ·have c':V.int m=V.int 0:=of_decide_eq_true c
  injection c' with c'
  refine ⟨(by show 0<=sizeLine; decide),fun t ht=>?_⟩
  have e:l.tms m=.nil:=if_pos c'
  exact q _ _ (SB.new ht _) (by rw [e]; exact LA_nil (SqT.of upd_same))
 ·have c':¬ V.int m=V.int 0:=of_decide_eq_false (Bool.eq_false_iff.mpr c)
  have c2:¬ m=0:=fun z=>c' (by rw [z])
  have e:l.tms m=Lad.ofPs (l.ps.map fun p=>(p.1,p.2*m)):=if_neg c2
  obtain ⟨a,xs,rfl,hsa,hba⟩:=LA_bears hv
  have xl:=hba.length
  have lp:=l.len_parts
  rw [<- Lad.ps_length] at lp
  refine ⟨_,rfl,a,rfl,⟨xs,hsa⟩,fun D hD=>?_⟩
  refine lc_it (walk_tup (xs:=xs)) (fun i H2=>SB [D] H H2/\∃ acc,H2 D=some (.lst acc)/\Bears K H2 Lad.pEnc acc ((l.ps.take i).map fun p=>(p.1,p.2*m))) ⟨SB.new hD _,[],upd_same,.nil⟩ (fun i H2 hi h2=>(h2.1.drop hD).sqT hsa) (fun i x H2 H' hi h2 y=>?_) (fun H2 h2=>?_)
  ·obtain ⟨s2,acc,hD2,hb2⟩:=h2
   obtain ⟨rfl,ex⟩:=y
   have s2':=s2.drop hD
   obtain ⟨b1,eb,hbd⟩:=hba.get ex
   obtain ⟨ad,ux,rfl,hs2,hla⟩:=LA_pair hbd
   have bz:=hsz b1 (List.mem_of_getElem? eb)
   have al:=hb2.length
   rw [List.length_map,List.length_take] at al
   refine ⟨rfl,?_⟩
   refine ⟨_,rfl,ad,_,_,_,rfl,rfl,s2'.sqT hs2,atI_nat (j:=0) rfl,_,rfl,ad,_,_,_,rfl,rfl,s2'.sqT hs2,atI_nat (j:=1) rfl,_,rfl,_,_,rfl,rfl,wide_mul (a:=2000) (b:=2000) (by omega) (by omega) (by decide) (by decide) (by decide),(by show 2<=sizeLine; decide),fun t ht=>?_⟩
   have t3:=SB.new (ps:=[D]) ht (.tup [ux,.int (b1.2*m)])
   have hD3:(upd H' t (.tup [ux,.int (b1.2*m)])) D=some (.lst acc):=by rw [upd_ne (ne_of_none hD2 ht)]; exact hD2
   refine ⟨acc,hD3,small1000 (by omega),?_⟩
   have t4:=SB.set (ps:=[D]) hD3 (by simp) (.lst (acc++[.ref t]))
   refine ⟨(s2.trans t3).trans t4,_,upd_same,?_⟩
   rw [List.take_add_one,eb,List.map_append]
   exact Bears.append ((hb2.sb t3 Lad.pEnc_noList).sb t4 Lad.pEnc_noList) (.cons (Dp.tup (t4.sqT (SqT.of upd_same)) (.cons (((hla.sb s2').sb t3).sb t4) (.cons (.int _) .nil))) .nil)
  ·obtain ⟨s2,acc,hD2,hb2⟩:=h2
   rw [xl,List.take_length] at hb2
   refine ⟨D,acc,rfl,.inl ⟨SqL.of hD2,fun t ht=>?_⟩⟩
   have t3:=SB.new (ps:=[]) ht (.tup acc)
   refine q _ _ ((s2.drop hD).trans t3) ?_
   rw [e]
   exact Bears_la (SqT.of upd_same) (hb2.sb t3 Lad.pEnc_noList)
theorem sc_power:FnScope ["ladder"] ["ladder"] (defScope s_power):=⟨rfl,rfl,rfl,by decide +kernel,rfl,by decide +kernel,by decide +kernel⟩
theorem ok_power (F:Fun K "power" "power" s_power f fd):FnOk P w K mg base CX0 1 f fd ["ladder"] (spPower K):=by
 refine F.ok sc_power (fun vs H Q E h=>?_) (fun cdv A outer s H vs Q E hr h=>?_)
 ·obtain ⟨v,l,rfl,_⟩:=h
  rfl
 obtain ⟨v,l,rfl,hv,q⟩:=h
 refine ⟨_,pss_one (ps_ret (pe_tup (pa_cons (pe_tup (pa_cons (pv 0) (pa_cons pe_int pa_nil))) pa_nil))),?_⟩
 refine ⟨_,rfl,(by show 2<=sizeLine; decide),fun p1 h1=>?_⟩
 refine ⟨(by show 1<=sizeLine; decide),fun p2 h2=>?_⟩
 have e1:=SB.new (ps:=[]) h1 (.tup [v,.int 1])
 have e2:=SB.new (ps:=[]) h2 (.tup [.ref p1])
 exact q _ _ (e1.trans e2) (LA_one (SqT.of upd_same) (e2.sqT (SqT.of upd_same)) ((hv.sb e1).sb e2))
abbrev N_above:List Str:=["one","other","exponent","kept","pair"]
theorem sc_above:FnScope N_above ["one","other"] (defScope s_above):=⟨rfl,rfl,rfl,by decide +kernel,rfl,by decide +kernel,by decide +kernel⟩
theorem ok_above (B:BI mg) (GL:Got P w K mg base "is_less" ["one","other"] 1 (spLess K)) (GN:Got P w K mg base "number" ["many"] 1 (spNumber K)) (GW:Got P w K mg base "power" ["ladder"] 1 (spPower K)) (GH:Got P w K mg base "behind" ["one","other"] 2 (spBehind K)) (GB:Got P w K mg base "both" ["one","other"] 3 (spBoth K)) (F:Fun K "above" "above" s_above f fd):FnOk P w K mg base CX0 4 f fd ["one","other"] (spAbove K):=by
 refine F.ok sc_above (fun vs H Q E h=>?_) (fun cdv A outer s H vs Q E hr h=>?_)
 ·obtain ⟨v,u,l,k,rfl,_⟩:=h
  rfl
 obtain ⟨v,u,l,k,rfl,hv,hu,hd,hd2,hp,hp2,q⟩:=h
 have hr1:=hr.mono (j:=1) (by decide)
 have hr2:=hr.mono (j:=2) (by decide)
 refine ⟨_,pss_cons (ps_if (pt_not (pt_truth (pv 1) (by intro _; rfl))) (pss_one (ps_ret (pe_got GB hr rfl (pa_cons (pv 0) (pa_cons (pe_got GN hr1 rfl (pa_cons pe_int pa_nil)) pa_nil))))) pss_nil)
  (pss_cons (ps_set (i:=2) sc_above.nd rfl (.inr rfl) (pe_ix ix_tup (pe_ix ix_tup (pv 1) pe_int (fun _ _=>rfl)) pe_int (fun _ _=>rfl)))
  (pss_cons (ps_set (i:=3) sc_above.nd rfl (.inl rfl) (pe_callTy call_tuple_of rfl B.tuple boot_tuple (pa_cons
   (pe_lc (own:=[("pair",4)]) (g:=gName 4) (tt:=tB (tCall (spLess K) [] E0 (tCons (tVar 2) (tCons (tOp (rIxT K) (tVar 4) (tC (.int 0))) tNil)))) (te:=tVar 4) rfl sc_above.nd (pi_tup (pv 0))
    (blkOk_by (N:=N_above) (sc:=defScope s_above) (by decide +kernel))
    (fun _ _ _ _ _=>pg_name (i:=4) sc_above.nd rfl (.inl rfl))
    (fun _ _ _ _ _=>pts_one (pt_val (pe_got GL hr1 rfl (pa_cons (pv 2) (pa_cons (pe_ix ix_tup (pv 4) pe_int (fun _ _=>rfl)) pa_nil)))))
    (fun _ _ _ _ _=>pv 4)) pa_nil)))
  (pss_one (ps_ret (pe_got GB hr rfl (pa_cons (pv 3) (pa_cons (pe_got GW hr1 rfl (pa_cons (pe_got GH hr2 rfl (pa_cons (pv 2) (pa_cons (pe_got GN hr1 rfl (pa_cons pe_int pa_nil)) pa_nil))) pa_nil)) pa_nil))))))),?_⟩
 obtain ⟨b,ys,rfl,hsb,hbb⟩:=LA_bears hu
 refine ⟨_,rfl,_,.inr (.inl ⟨ys,hsb,rfl⟩),?_⟩
 cases k with
 | nil =>
  cases hbb
  refine iteT ?_
  refine ⟨_,rfl,1,rfl,fun n1 H1 s1 hn1=>?_⟩
  rw [Lad.num_one] at hn1
  exact ⟨v,n1,l,Lad.uno,rfl,hv.sb s1,hn1,by omega,by decide,by omega,by decide,fun x H' s2 hx=>q x H' (s1.trans s2) hx⟩
 | cons e m r =>
  rw [show (Lad.cons e m r).ps=(e,m)::r.ps from rfl] at hbb
  cases hbb with
  | @cons y0 yr _ _ h0 hbr =>
  refine iteF ?_
  obtain ⟨c,ue,rfl,hsc,hle⟩:=LA_pair h0
  refine ⟨_,rfl,b,_,_,_,rfl,rfl,hsb,atI_nat (j:=0) rfl,c,_,_,_,rfl,rfl,hsc,atI_nat (j:=0) rfl,?_⟩
  obtain ⟨a,xs,rfl,hsa,hba⟩:=LA_bears hv
  have bl:=hba.length
  have lp:=l.len_parts
  rw [<- Lad.ps_length] at lp
  have ed:e.deep < (Lad.cons e m r).deep:=Lad.mem_deep (.cons e m r) (e,m) (mcs ..)
  have ep:e.parts<=(Lad.cons e m r).parts:=by show e.parts<=1+e.parts+r.parts; omega
  refine ⟨_,rfl,a,rfl,⟨xs,hsa⟩,fun D hD=>?_⟩
  refine lc_it (walk_tup (xs:=xs)) (fun i H2=>SB [D] H H2/\∃ acc,H2 D=some (.lst acc)/\Bears K H2 Lad.pEnc acc ((l.ps.take i).filter fun p=>e.lt p.1)) ⟨SB.new hD _,[],upd_same,.nil⟩ (fun i H2 hi h2=>(h2.1.drop hD).sqT hsa) (fun i x H2 H' hi h2 y=>?_) (fun H2 h2=>?_)
  ·obtain ⟨s2,acc,hD2,hb2⟩:=h2
   obtain ⟨rfl,ex⟩:=y
   have s2':=s2.drop hD
   obtain ⟨b1,eb,hbd⟩:=hba.get ex
   obtain ⟨ad,ux,rfl,hs2,hla⟩:=LA_pair hbd
   refine ⟨rfl,?_⟩
   refine ⟨_,rfl,_,rfl,ad,_,_,_,rfl,rfl,s2'.sqT hs2,atI_nat (j:=0) rfl,ue,ux,e,b1.1,rfl,hle.sb s2',hla.sb s2',by omega,_,rfl,?_⟩
   have al:=hb2.length
   have fl:=List.length_filter_le (fun p:Lad × Int=>e.lt p.1) (l.ps.take i)
   rw [List.length_take] at fl
   cases hc:e.lt b1.1 with
   | true =>
    refine iteT ?_
    refine ⟨_,rfl,acc,hD2,small1000 (by omega),?_⟩
    have t9:=SB.set (ps:=[D]) hD2 (by simp) (.lst (acc++[.ref ad]))
    refine ⟨s2.trans t9,_,upd_same,?_⟩
    rw [List.take_add_one,eb,List.filter_append]
    refine Bears.append (hb2.sb t9 Lad.pEnc_noList) ?_
    have:([b1]:List (Lad × Int)).filter (fun p=>e.lt p.1)=[b1]:=by simp [hc]
    show Bears K _ Lad.pEnc _ (([b1]:List (Lad × Int)).filter (fun p=>e.lt p.1))
    rw [this]
    exact .cons (Dp_sb t9 _ _ (Lad.pEnc_noList _) (Dp_sb s2' _ _ (Lad.pEnc_noList _) hbd)) .nil
   | false =>
    refine iteF ?_
    refine ⟨s2,acc,hD2,?_⟩
    rw [List.take_add_one,eb,List.filter_append]
    simpa [hc] using hb2
  ·obtain ⟨s2,acc,hD2,hb2⟩:=h2
   rw [bl,List.take_length] at hb2
   have s2':=s2.drop hD
   refine ⟨D,acc,rfl,.inl ⟨SqL.of hD2,fun kt hkt=>?_⟩⟩
   have s3:=SB.new (ps:=[]) hkt (.tup acc)
   have s23:=s2'.trans s3
   have kept:LA K (upd H2 kt (.tup acc)) (.ref kt) (Lad.ofPs (l.ps.filter fun p=>e.lt p.1)):=Bears_la (SqT.of upd_same) (hb2.sb s3 Lad.pEnc_noList)
   refine ⟨_,rfl,_,rfl,1,rfl,fun n1 H4 s4 hn1=>?_⟩
   rw [Lad.num_one] at hn1
   refine ⟨ue,n1,e,Lad.uno,rfl,(hle.sb s23).sb s4,hn1,by omega,by decide,by omega,by decide,fun x1 H5 s5 hx1=>?_⟩
   refine ⟨x1,_,rfl,hx1,fun x2 H6 s6 hx2=>?_⟩
   have b1:=Lad.bhd_parts e Lad.uno
   have b2:=Lad.bhd_deep (n:=29) (l:=e) (k:=Lad.uno) (by omega) (by decide)
   have b3:=Lad.filter_parts l fun p=>e.lt p.1
   have b4:Lad.uno.parts=1:=rfl
   refine ⟨.ref kt,x2,_,_,rfl,((kept.sb s4).sb s5).sb s6,hx2,Nat.le_trans (Lad.filter_deep _ hd) (by decide),by show max (1+(Lad.bhd e Lad.uno).deep) 0<=30; omega,by omega,by show 1+(Lad.bhd e Lad.uno).parts+0<=800000; omega,fun x H' s7 hx=>?_⟩
   exact q x H' (((s23.trans s4).trans s5).trans (s6.trans s7)) hx
theorem sc_spread:FnScope ["one","other"] ["one","other"] (defScope s_spread):=⟨rfl,rfl,rfl,by decide +kernel,rfl,by decide +kernel,by decide +kernel⟩
theorem ok_spread (GW:Got P w K mg base "power" ["ladder"] 1 (spPower K)) (GH:Got P w K mg base "behind" ["one","other"] 2 (spBehind K)) (F:Fun K "spread" "spread" s_spread f fd):FnOk P w K mg base CX0 3 f fd ["one","other"] (spSpread K):=by
 refine F.ok sc_spread (fun vs H Q E h=>?_) (fun cdv A outer s H vs Q E hr h=>?_)
 ·obtain ⟨v,u,e,m,r,k,rfl,_⟩:=h
  rfl
 obtain ⟨v,u,e,m,r,k,rfl,hv,hu,hd,hd2,hp,hp2,q⟩:=h
 have hr1:=hr.mono (j:=1) (by decide)
 refine ⟨_,pss_cons (ps_if (pt_not (pt_truth (pv 1) (by intro _; rfl))) (pss_one (ps_ret (pv 0))) pss_nil)
  (pss_one (ps_ret (pe_got GW hr1 rfl (pa_cons (pe_got GH hr rfl (pa_cons (pe_ix ix_tup (pe_ix ix_tup (pv 0) pe_int (fun _ _=>rfl)) pe_int (fun _ _=>rfl)) (pa_cons (pv 1) pa_nil))) pa_nil)))),?_⟩
 obtain ⟨b,ys,rfl,hsb,hbb⟩:=LA_bears hu
 refine ⟨_,rfl,_,.inr (.inl ⟨ys,hsb,rfl⟩),?_⟩
 cases k with
 | nil =>
  cases hbb
  refine iteT ?_
  exact ⟨_,rfl,q v H SB.refl hv⟩
 | cons e2 m2 r2 =>
  rw [show (Lad.cons e2 m2 r2).ps=(e2,m2)::r2.ps from rfl] at hbb
  cases hbb with
  | @cons y0 yr _ _ h0 hbr =>
  refine iteF ?_
  obtain ⟨a,xs,rfl,hsa,hba⟩:=LA_bears hv
  rw [show (Lad.cons e m r).ps=(e,m)::r.ps from rfl] at hba
  cases hba with
  | @cons x0 xr _ _ g0 gbr =>
  obtain ⟨c,ue,rfl,hsc,hle⟩:=LA_pair g0
  have ed:e.deep < (Lad.cons e m r).deep:=Lad.mem_deep (.cons e m r) (e,m) (mcs ..)
  have ep:e.parts<=(Lad.cons e m r).parts:=by show e.parts<=1+e.parts+r.parts; omega
  refine ⟨_,rfl,a,_,_,_,rfl,rfl,hsa,atI_nat (j:=0) rfl,c,_,_,_,rfl,rfl,hsc,atI_nat (j:=0) rfl,_,rfl,ue,_,e,_,rfl,hle,hu,by omega,by omega,by omega,by omega,fun x1 H1 s1 hx1=>?_⟩
  exact ⟨x1,_,rfl,hx1,fun x H' s2 hx=>q x H' (s1.trans s2) hx⟩
abbrev N_rank:List Str:=["book","grove"]
theorem sc_rank:FnScope N_rank ["book","grove"] (defScope s_rank):=⟨rfl,rfl,rfl,by decide +kernel,rfl,by decide +kernel,by decide +kernel⟩
theorem ok_rank {C_Book C_NoKind C_Endless:Addr} (B:BI mg) (G_check_kinds:GotX P w K mg base "check_kinds" ["book","grove"] (72) (spCheckKX K C_Book C_NoKind)) (G_check_ends:GotX P w K mg base "check_ends" ["book","grove"] (72) (spChkEX K C_Book C_NoKind C_Endless)) (G_reckoned:Got P w K mg base "reckoned" ["book","worths","grove"] (45) (spReckW K C_Book 20)) (G_own_ranks:Got P w K mg base "own_ranks" ["book"] (47) (spOwnRanks K C_Book C_NoKind)) (F:Fun K "rank" "rank" s_rank f fd):FnOk P w K mg base (L2.CX P w) (73) f fd ["book","grove"] (spRankW K C_Book C_NoKind C_Endless):=by
 refine F.okX sc_rank (fun vs H Q E h=>?_) (fun cdv A outer s H vs Q E hr h=>?_)
 ·obtain ⟨v,w,b,ρ,g,rfl,_⟩:=h
  rfl
 obtain ⟨v,w,b,ρ,g,rfl,hv,ok,ow,hg,hd,hp,hk,he,hfit,q⟩:=h
 have hun2:=hunT hr
 refine ⟨_,pss_cons (ps_expr (pe_gotS G_check_kinds (hr.mono (by omega)) rfl (takes_of rfl rfl rfl rfl) (pa_cons (pv 0) (pa_cons (pv 1) pa_nil))))
  (pss_cons (ps_expr (pe_gotS G_check_ends (hr.mono (by omega)) rfl (takes_of rfl rfl rfl rfl) (pa_cons (pv 0) (pa_cons (pv 1) pa_nil))))
  (pss_one (ps_ret (pe_got G_reckoned (hr.mono (by omega)) rfl (pa_cons (pv 0) (pa_cons (pe_got G_own_ranks (hr.mono (by omega)) rfl (pa_cons (pv 0) pa_nil)) (pa_cons (pv 1) pa_nil))))))),?_⟩
 have b8:=ok.len
 refine ⟨_,rfl,_,rfl,v,w,b,g,b.names,rfl,hv,hg,by omega,by omega,by omega,hk,by rw [List.length_map]; omega,fun _ H1 s1=>?_,fun n hn=>absurd ?_ hn.out⟩
 rotate_left
 ·obtain ⟨x,hx,e⟩:=List.mem_map.mp hn.mem
  exact e ▸ hk x hx
 refine ⟨_,rfl,_,rfl,v,w,b,g,rfl,hv.sb0 s1,ok,hg.sb s1,by omega,by omega,hk,fun _ H2 s2=>?_,fun n hn=>absurd ?_ hn.out⟩
 rotate_left
 ·obtain ⟨x,hx,e⟩:=List.mem_map.mp hn.mem
  exact e ▸ he x hx
 have s02:=s1.trans s2
 refine ⟨_,rfl,_,rfl,v,b,ρ,rfl,hv.sb0 s02,ok,ow,fun d es H3 s3 nd hw eo=>?_⟩
 have s03:=s02.trans s3
 refine ⟨_,rfl,v,w,d,b,ρ,es,g,rfl,hv.sb0 s03,by omega,hw,hg.sb s03,hd,hfit es (fun n hn hen=>(eo.mem n).mpr ⟨hn,hen⟩),hp,fun x H' s hx=>q x H' (s03.trans s) hx⟩
abbrev N_own_ranks:List Str:=["book","found","name","rule"]
theorem sc_own_ranks:FnScope N_own_ranks ["book"] (defScope s_own_ranks):=⟨rfl,rfl,rfl,by decide +kernel,rfl,by decide +kernel,by decide +kernel⟩
theorem ok_own_ranks {C_Book C_NoKind:Addr} (B:BI mg) (G_ending_kinds:Got P w K mg base "ending_kinds" ["book"] (24) (spEndingO K C_Book C_NoKind)) (G_rules_from_nought:GotX P w K mg base "rules_from_nought" ["book","name"] (5) (spRulesN K C_Book C_NoKind)) (G_climb:Got P w K mg base "climb" ["book","worths","rule"] (46) (spClimb K C_Book)) (F:Fun K "own_ranks" "own_ranks" s_own_ranks f fd):FnOk P w K mg base CX0 (47) f fd ["book"] (spOwnRanks K C_Book C_NoKind):=by
 refine F.ok sc_own_ranks (fun vs H Q E h=>?_) (fun cdv A outer s H vs Q E hr h=>?_)
 ·obtain ⟨v,b,ρ,rfl,_⟩:=h
  rfl
 obtain ⟨v,b,ρ,rfl,hv,ok,ow,q⟩:=h
 have hun2:=hunT hr
 refine ⟨_,pss_cons (ps_set (i:=1) sc_own_ranks.nd rfl (.inr rfl) pe_dnewK)
  (pss_cons (ps_for PassesOwn.never rfl (pi_list (pe_got G_ending_kinds (hr.mono (by omega)) rfl (pa_cons (pv 0) pa_nil))) (pg_name (i:=2) sc_own_ranks.nd rfl (.inl rfl))
   (pss_one (ps_dput (by show A.units+3+1 < cLine; omega) (pv 1) (pv 2) (pe_callB (cr_maxL rfl (by show A.units+3+110 < cLine; omega)) rfl B.max boot_max (pa_cons (pe_lc (own:=[("rule",3)]) (g:=(gName 3)) (tt:=tYes) (te:=(tCall (spClimb K C_Book) [] E0 (tCons (tVar 0) (tCons (tVar 1) (tCons (tVar 3) tNil))))) rfl sc_own_ranks.nd (pi_list (pe_gotX G_rules_from_nought (hr.mono (by omega)) rfl (pa_cons (pv 0) (pa_cons (pv 2) pa_nil)))) (blkOk_by (N:=N_own_ranks) (sc:=defScope s_own_ranks) (by decide +kernel)) (fun _ _ _ _ _=>(pg_name (i:=3) sc_own_ranks.nd rfl (.inl rfl))) (fun _ _ _ _ _=>pts_nil) (fun _ _ _ _ _=>(pe_got G_climb (hr.mono (by omega)) rfl (pa_cons (pv 0) (pa_cons (pv 1) (pa_cons (pv 3) pa_nil)))))) pa_nil)) rfl)))
  (pss_one (ps_ret (pv 1)))),?_⟩
 have szl:=sizeLine_eq
 have b8:=ok.len
 intro D nD
 have t1:=SB.new (ps:=[]) nD (.dK [])
 have hD1:upd H D (.dK []) D=some (.dK []):=upd_same
 generalize upd H D (.dK [])=H1 at t1 hD1
 refine ⟨_,rfl,v,b,rfl,hv.sb0 t1,ok,fun l es H2 s2 nl hl eo=>?_⟩
 have e8:=eo.len
 refine ⟨l,rfl,⟨_,SqL.of hl⟩,?_⟩
 have Dl:D ≠ l:=fun z=>by rw [<- z,hD1] at nl; cases nl
 refine for_it (walk_list (xs:=es.map V.str)) (fun i σ H3=>SB [D] H2 H3/\(∃ o2:Option V,σ=[some v,some (.ref D),o2,none])/\RkD K H3 D ρ (es.take i)) ⟨SB.refl,⟨none,rfl⟩,[],s2.keep _ _ hD1 nmn,.nil⟩ (fun i σ H3 hi h3=>h3.1.sqL (by simpa using fun z=>Dl z.symm) (SqL.of hl)) (fun i x σ Hq H3 hi h3 y=>?_) (fun σ H3 h3=>?_)
 ·obtain ⟨s3,⟨o2,rfl⟩,hR⟩:=h3
  obtain ⟨rfl,ey⟩:=y
  rw [List.getElem?_map] at ey
  obtain ⟨n,en,rfl⟩:=Option.map_eq_some_iff.mp ey
  have s03:SB [] H H3:=((t1.trans s2).nil.trans s3).drop nD
  have hn:=(eo.mem n).mp (List.mem_of_getElem? en)
  obtain ⟨kd,eg⟩:=Bk.get_of hn.1
  obtain ⟨km,rfl⟩:=Bk.get_some eg
  obtain ⟨kn,r4,rr⟩:=ok.kd kd km
  refine ⟨_,rfl,_,rfl,v,b,kd.n,rfl,hv.sb0 s03,by omega,fun k hk=>Nat.le_trans (ok.kd k hk).2.1 (by decide),fun k' e' ll us H4 s4 nll hll hbl=>?_,fun z=>by rw [eg] at z; cases z⟩
  rw [eg] at e'
  cases e'
  have ul:=hbl.length
  have Dll:D ≠ ll:=fun z=>by
   obtain ⟨_,h1,_⟩:=hR
   rw [<- z,h1] at nll; cases nll
  have hR4:=hR.sb0 s4
  have s04:=s03.trans s4
  refine ⟨ll,rfl,⟨_,SqL.of hll⟩,fun D2 nD2=>?_⟩
  refine lc_seq (walk_list (xs:=us)) nD2 (by rw [ul,List.length_cons]; omega) (fun j ws H5=>Bears K H5 Lad.enc ws (((noR::kd.rs).take j).map (clm b ρ))) .nil (fun H5 s5=>s5.sqL nmn (SqL.of hll)) (fun j ws H5 H6 s6 h=>h.sb s6 Lad.noList_enc) (fun Pv j x Hq H5 ws hj s5 y hR5 hu5 fin skip=>?_) (fun ws H5 s5 hD5 hR5 hu5=>?_)
  ·obtain ⟨rfl,ey⟩:=y
   obtain ⟨r,er,hrd⟩:=hbl.get ey
   have rm:=List.mem_of_getElem? er
   have rf:RFit b ρ (es.take i) r:=by
    rcases List.mem_cons.mp rm with rfl | rm
    ·exact RFit_no b ρ _
    ·exact ow.fit kd km hn.2 _ (fun n h=>eo.ord i _ en n h) r rm
   have rp:r.1.parts+r.2.parts<=4:=by
    rcases List.mem_cons.mp rm with rfl | rm
    ·decide
    ·exact (rr r rm).1.2.2
   have rd1:=within_deep r.1
   have rd2:=within_deep r.2
   refine ⟨rfl,_,rfl,_,rfl,_,rfl,v,x,D,b,ρ,es.take i,r,rfl,(hv.sb0 s04).sb0 s5,by omega,hR4.sb0 s5,Dp_sb s5 _ _ (Ru.noList_enc _) hrd,by omega,by omega,by omega,by omega,rf,fun z H6 s6 hz=>fin z H6 s6 ?_⟩
   rw [List.take_add_one,er,List.map_append]
   exact (hR5.sb s6 Lad.noList_enc).append (.cons hz .nil)
  ·rw [ul,List.take_length,List.map_cons,show clm b ρ noR=Lad.uno from clm_no b ρ] at hR5
   have hR6:=hR4.sb0 s5
   refine ⟨D2,ws,Lad.uno,kd.rs.map (clm b ρ),rfl,SqL.of hD5,hR5,fun l hl'=>?_,fun x hx=>?_⟩
   ·rcases List.mem_cons.mp hl' with rfl | hl'
    ·decide
    ·obtain ⟨r,rm,rfl⟩:=List.mem_map.mp hl'
     exact ow.deep kd km hn.2 r rm
   rw [<- ow.own kd km hn.2] at hx
   have fresh:kd.n ∉ es.take i:=fun z=>by
    obtain ⟨j,hj,ej⟩:=List.getElem_of_mem z
    rw [List.getElem_take] at ej
    rw [List.length_take] at hj
    have e2:=List.getElem_of_getElem? en
    obtain ⟨hi2,e2⟩:=e2
    exact List.pairwise_iff_getElem.mp eo.nd j i (by omega) hi2 (by omega) (ej.trans e2.symm)
   obtain ⟨H6,hput,s6,hR7⟩:=hR6.put fresh (by rw [List.length_take]; omega) hx
   refine ⟨_,rfl,_,rfl,D,H6,rfl,hput,?_,⟨_,rfl⟩,?_⟩
   ·exact (s3.trans (s4.trans s5).nil).trans s6
   ·rw [List.take_add_one,en]
    exact hR7
 ·obtain ⟨s3,⟨o2,rfl⟩,hR⟩:=h3
  rw [List.length_map,List.take_length] at hR
  exact ⟨_,rfl,q D es _ (((t1.trans s2).nil.trans s3).drop nD) nD hR eo⟩
abbrev N_climb:List Str:=["book","worths","rule","once","each"]
theorem sc_climb:FnScope N_climb ["book","worths","rule"] (defScope s_climb):=⟨rfl,rfl,rfl,by decide +kernel,rfl,by decide +kernel,by decide +kernel⟩
theorem ok_climb {C_Book:Addr} (B:BI mg) (G_above:Got P w K mg base "above" ["one","other"] (4) (spAbove K)) (G_reckoned:Got P w K mg base "reckoned" ["book","worths","grove"] (45) (spReckW K C_Book 20)) (F:Fun K "climb" "climb" s_climb f fd):FnOk P w K mg base CX0 (46) f fd ["book","worths","rule"] (spClimb K C_Book):=by
 refine F.ok sc_climb (fun vs H Q E h=>?_) (fun cdv A outer s H vs Q E hr h=>?_)
 ·obtain ⟨v,u,d,b,ρ,ns,r,rfl,_⟩:=h
  rfl
 obtain ⟨v,u,d,b,ρ,ns,r,rfl,hv,hl,hw,hu,d1,d2,p1,p2,hfit,q⟩:=h
 have hun2:=hunT hr
 refine ⟨_,pss_cons (ps_asg (pv 2) (pg_tup rfl (pgs_cons (pg_name (i:=3) sc_climb.nd rfl (.inl rfl)) (pgs_cons (pg_name (i:=4) sc_climb.nd rfl (.inl rfl)) pgs_nil))))
  (pss_one (ps_ret (pe_got G_above (hr.mono (by omega)) rfl (pa_cons (pe_got G_reckoned (hr.mono (by omega)) rfl (pa_cons (pv 0) (pa_cons (pv 1) (pa_cons (pv 3) pa_nil)))) (pa_cons (pe_got G_reckoned (hr.mono (by omega)) rfl (pa_cons (pv 0) (pa_cons (pv 1) (pa_cons (pv 4) pa_nil)))) pa_nil))))),?_⟩
 cases hu with
 | @tup ad us' _ hs' hda =>
 cases hda with
 | cons g1 hda =>
 cases hda with
 | cons g2 hda =>
 cases hda
 obtain ⟨h1,h2,h3,h4,h5,h6⟩:=hfit
 refine ⟨_,rfl,ad,_,rfl,hs',rfl,_,_,rfl,_,_,rfl,rfl,?_⟩
 refine ⟨_,rfl,_,rfl,_,rfl,v,_,d,b,ρ,ns,r.1,rfl,hv,hl,hw,g1,d1,h1.w,p1,fun x1 H1 s1 hx1=>?_⟩
 refine ⟨_,rfl,_,rfl,_,rfl,v,_,d,b,ρ,ns,r.2,rfl,hv.sb0 s1,hl,hw.sb0 s1,GA.sb g2 s1,d2,h2.w,p2,fun x2 H2 s2 hx2=>?_⟩
 exact ⟨x1,x2,_,_,rfl,hx1.sb s2,hx2,Nat.le_trans h3 (by decide),Nat.le_trans h4 (by decide),Nat.le_trans h5 (by decide),Nat.le_trans h6 (by decide),fun x H' s hx=>q x H' ((s1.trans s2).trans s) hx⟩
abbrev N_reckoned:List Str:=["book","worths","grove","tree","many"]
theorem sc_reckoned:FnScope N_reckoned ["book","worths","grove"] (defScope s_reckoned):=⟨rfl,rfl,rfl,by decide +kernel,rfl,by decide +kernel,by decide +kernel⟩
theorem ok_reckoned {n:Nat} {C_Book:Addr} (B:BI mg) (G_all_together:Got P w K mg base "all_together" ["some"] (2) (spAllT K)) (G_many_of:Got P w K mg base "many_of" ["ladder","many"] (1) (spManyOf K)) (G_reckoned_tree:Got P w K mg base "reckoned_tree" ["book","worths","tree"] (2*n+6) (spReckTW K C_Book n)) (F:Fun K "reckoned" "reckoned" s_reckoned f fd):FnOk P w K mg base CX0 (2*n+7) f fd ["book","worths","grove"] (spReckW K C_Book (n+1)):=by
 refine F.ok sc_reckoned (fun vs H Q E h=>?_) (fun cdv A outer s H vs Q E hr h=>?_)
 ·obtain ⟨v,u,d,b,ρ,ns,g,rfl,_⟩:=h
  rfl
 obtain ⟨v,u,d,b,ρ,ns,g,rfl,hv,hl,hw,hg,hgd,hfit,hp,q⟩:=h
 have hun2:=hunT hr
 refine ⟨_,pss_one (ps_ret (pe_got G_all_together (hr.mono (by omega)) rfl (pa_cons (pe_lc (own:=[("tree",3),("many",4)]) (g:=(gTup K 2 (gCons (gName 3) (gCons (gName 4) gNil)))) (tt:=tYes) (te:=(tCall (spManyOf K) [] E0 (tCons (tCall (spReckTW K C_Book n) [] E0 (tCons (tVar 0) (tCons (tVar 1) (tCons (tVar 3) tNil)))) (tCons (tVar 4) tNil)))) rfl sc_reckoned.nd (pi_tup (pv 2)) (blkOk_by (N:=N_reckoned) (sc:=defScope s_reckoned) (by decide +kernel)) (fun _ _ _ _ _=>(pg_tup rfl (pgs_cons (pg_name (i:=3) sc_reckoned.nd rfl (.inl rfl)) (pgs_cons (pg_name (i:=4) sc_reckoned.nd rfl (.inl rfl)) pgs_nil)))) (fun _ _ _ _ _=>pts_nil) (fun _ _ _ _ _=>(pe_got G_many_of (hr.mono (by omega)) rfl (pa_cons (pe_got G_reckoned_tree (hr.mono (by omega)) rfl (pa_cons (pv 0) (pa_cons (pv 1) (pa_cons (pv 3) pa_nil)))) (pa_cons (pv 4) pa_nil))))) pa_nil))),?_⟩
 obtain ⟨a,xs,rfl,hs,hb⟩:=GA_bears hg
 have xl:=hb.length
 have lp:=g.len_parts
 have szl:=sizeLine_eq
 refine ⟨_,rfl,a,rfl,⟨xs,hs⟩,fun D hD=>?_⟩
 refine lc_seq (walk_tup (xs:=xs)) hD (by omega) (fun i us H2=>Bears K H2 Lad.enc us ((g.ps.take i).map fun p:Tr × Int=>Lad.tms (Gr.rkt b ρ p.1) p.2)) .nil (fun H2 s2=>s2.sqT hs) (fun i us H2 H3 s3 h=>h.sb s3 Lad.noList_enc) (fun Pv i x Hq H2 us hi s2 y hR hu fin skip=>?_) (fun us H2 s2 hD2 hR hu=>?_)
 ·obtain ⟨rfl,ey⟩:=y
  obtain ⟨p,ep,hpd⟩:=hb.get ey
  have pm:=List.mem_of_getElem? ep
  obtain ⟨ad,td,ux,rfl,hs2,hs3,hga,htd⟩:=PA_parts hpd
  obtain ⟨⟨f1,f2,f3,f4,f5,f6,f7,f8⟩,f9⟩:=hfit.at p pm
  have pd:=g.mem_deep p pm
  have pp:=g.mem_parts p pm
  refine ⟨ad,_,rfl,s2.sqT hs2,rfl,_,_,rfl,_,_,rfl,rfl,rfl,?_⟩
  refine ⟨_,rfl,_,rfl,_,rfl,v,.ref td,d,b,ρ,ns,p.1.1,p.1.2,rfl,hv.sb0 s2,hl,hw.sb0 s2,Dp_sb s2 _ _ (Gr.noList_tEnc _) htd,by omega,⟨f1,f2,f3,f4,f5⟩,f9,by omega,fun x H3 s3 hx=>?_⟩
  refine ⟨_,rfl,x,_,p.2,rfl,hx,Nat.le_trans f6.parts (by decide),f6.num,f7,f8,fun y H4 s4 hy=>fin y H4 (s3.trans s4) ?_⟩
  rw [List.take_add_one,ep,List.map_append]
  exact (hR.sb (s3.trans s4) Lad.noList_enc).append (.cons hy .nil)
 ·rw [xl,List.take_length,<- Gr.rkT_ps] at hR
  refine ⟨D,us,Gr.rkT b ρ g,rfl,SqL.of hD2,hR,fun l hm=>?_,Nat.le_trans hfit.len (by decide),fun x H' s hx=>q x H' (s2.trans s) hx⟩
  rw [Gr.rkT_ps] at hm
  obtain ⟨p,pm,rfl⟩:=List.mem_map.mp hm
  exact Nat.le_trans (Lad.tms_deep _ (hfit.at p pm).1.2.2.2.2.2.1.deep) (by decide)
abbrev N_reckoned_tree:List Str:=["book","worths","tree","kind","held"]
theorem sc_reckoned_tree:FnScope N_reckoned_tree ["book","worths","tree"] (defScope s_reckoned_tree):=⟨rfl,rfl,rfl,by decide +kernel,rfl,by decide +kernel,by decide +kernel⟩
theorem ok_reckoned_tree {n:Nat} {C_Book:Addr} (B:BI mg) (G_laden:Got P w K mg base "laden" ["book","kind","own","inner"] (5) (spLadenW K C_Book)) (G_reckoned:Got P w K mg base "reckoned" ["book","worths","grove"] (2*n+5) (spReckW K C_Book n)) (F:Fun K "reckoned_tree" "reckoned_tree" s_reckoned_tree f fd):FnOk P w K mg base CX0 (2*n+6) f fd ["book","worths","tree"] (spReckTW K C_Book n):=by
 refine F.ok sc_reckoned_tree (fun vs H Q E h=>?_) (fun cdv A outer s H vs Q E hr h=>?_)
 ·obtain ⟨v,t,d,b,ρ,ns,k,g,rfl,_⟩:=h
  rfl
 obtain ⟨v,t,d,b,ρ,ns,k,g,rfl,hv,hl,hw,ht,hgd,⟨kn,kb,kne,fk,fg⟩,hfit,hp,q⟩:=h
 have hun2:=hunT hr
 refine ⟨_,pss_cons (ps_asg (pv 2) (pg_tup rfl (pgs_cons (pg_name (i:=3) sc_reckoned_tree.nd rfl (.inl rfl)) (pgs_cons (pg_name (i:=4) sc_reckoned_tree.nd rfl (.inl rfl)) pgs_nil))))
  (pss_one (ps_ret (pe_got G_laden (hr.mono (by omega)) rfl (pa_cons (pv 0) (pa_cons (pv 3) (pa_cons (pe_dget (by show A.units+3+1 < cLine; omega) (pv 1) (pv 3) (fun _ _=>rfl)) (pa_cons (pe_got G_reckoned (hr.mono (by omega)) rfl (pa_cons (pv 0) (pa_cons (pv 1) (pa_cons (pv 4) pa_nil)))) pa_nil))))))),?_⟩
 obtain ⟨a,u,rfl,hs,hga⟩:=TA_parts ht
 obtain ⟨ux,hux,hul⟩:=hw.val kn
 refine ⟨_,rfl,a,_,rfl,hs,rfl,_,_,rfl,_,_,rfl,rfl,?_⟩
 refine ⟨_,rfl,_,rfl,_,rfl,_,rfl,d,ux,rfl,hux,?_⟩
 refine ⟨_,rfl,_,rfl,_,rfl,v,u,d,b,ρ,ns,g,rfl,hv,hl,hw,hga,hgd,hfit,hp,fun x H1 s1 hx=>?_⟩
 exact ⟨v,ux,x,b,k,ρ k,Gr.rk b ρ g,rfl,hv.sb0 s1,hl,kb,⟨hul.sb s1,kne,fk⟩,⟨hx,fg⟩,fun y H2 s2 hy=>q y H2 (s1.trans s2) hy⟩
abbrev N_laden:List Str:=["book","kind","own","inner"]
theorem sc_laden:FnScope N_laden ["book","kind","own","inner"] (defScope s_laden):=⟨rfl,rfl,rfl,by decide +kernel,rfl,by decide +kernel,by decide +kernel⟩
theorem ok_laden {C_Book C_NoKind:Addr} (B:BI mg) (G_Book_spreads:GotMX P w K mg base C_Book "spreads" ["self","name"] (4) (spBSpreads K C_Book C_NoKind)) (G_spread:Got P w K mg base "spread" ["one","other"] (3) (spSpread K)) (G_behind:Got P w K mg base "behind" ["one","other"] (2) (spBehind K)) (F:Fun K "laden" "laden" s_laden f fd):FnOk P w K mg base CX0 (5) f fd ["book","kind","own","inner"] (spLadenW K C_Book):=by
 refine F.ok sc_laden (fun vs H Q E h=>?_) (fun cdv A outer s H vs Q E hr h=>?_)
 ·obtain ⟨v,u,t,b,n,o,l,rfl,_⟩:=h
  rfl
 obtain ⟨v,u,t,b,n,o,l,rfl,hv,hl,hn,⟨hu,hne,fo⟩,⟨ht,fl⟩,q⟩:=h
 have hun2:=hunT hr
 refine ⟨_,pss_cons (ps_if (pt_val (pe_gotMX G_Book_spreads (hr.mono (by omega)) (pv 0) (pa_cons (pv 1) pa_nil))) (pss_one (ps_ret (pe_got G_spread (hr.mono (by omega)) rfl (pa_cons (pv 2) (pa_cons (pv 3) pa_nil))))) pss_nil)
  (pss_one (ps_ret (pe_got G_behind (hr.mono (by omega)) rfl (pa_cons (pv 2) (pa_cons (pv 3) pa_nil))))),?_⟩
 obtain ⟨va,vdx,vd1,vd2,rfl,hva⟩:=hv.at
 obtain ⟨kd,eg⟩:=Bk.get_of hn
 refine ⟨_,rfl,va,vdx,_,rfl,hva,rfl,_,rfl,?_⟩
 refine ⟨_,b,n,rfl,hv,hl,fun k' e' H1 s1=>?_,fun z=>by rw [eg] at z; cases z⟩
 rw [eg] at e'
 cases e'
 refine ⟨_,rfl,?_⟩
 have hwd:b.wide n=kd.w:=Bk.wide_get eg
 cases hk:kd.w with
 | true =>
  refine iteT ⟨_,rfl,_,rfl,?_⟩
  cases o with
  | nil=>exact absurd rfl hne
  | cons e m r =>
  refine ⟨u,t,e,m,r,l,rfl,hu.sb s1,ht.sb s1,Nat.le_trans fo.deep (by decide),Nat.le_trans fl.deep (by decide),Nat.le_trans fo.parts (by decide),Nat.le_trans fl.parts (by decide),fun x H' s2 hx=>q x H' (s1.trans s2) ?_⟩
  rw [hwd,hk]
  exact hx
 | false =>
  refine iteF ⟨_,rfl,_,rfl,?_⟩
  refine ⟨u,t,o,l,rfl,hu.sb s1,ht.sb s1,Nat.le_trans fo.deep (by decide),Nat.le_trans fl.deep (by decide),Nat.le_trans fo.parts (by decide),Nat.le_trans fl.parts (by decide),fun x H' s2 hx=>q x H' (s1.trans s2) ?_⟩
  rw [hwd,hk]
  exact hx
abbrev N_outlasts:List Str:=["book","grove","other_book","other"]
theorem sc_outlasts:FnScope N_outlasts ["book","grove","other_book","other"] (defScope s_outlasts):=⟨rfl,rfl,rfl,by decide +kernel,rfl,by decide +kernel,by decide +kernel⟩
theorem ok_outlasts {C_Book C_NoKind C_Endless:Addr} (B:BI mg) (G_check_hands:GotX P w K mg base "check_hands" ["book","grove","other_book","other"] (74) (spHands K C_Book C_NoKind C_Endless)) (G_is_less:Got P w K mg base "is_less" ["one","other"] (1) (spLess K)) (G_rank:GotX P w K mg base "rank" ["book","grove"] (73) (spRankW K C_Book C_NoKind C_Endless)) (F:Fun K "outlasts" "outlasts" s_outlasts f fd):FnOk P w K mg base (L2.CX P w) (75) f fd ["book","grove","other_book","other"] (spOutl K C_Book C_NoKind C_Endless):=by
 refine F.okX sc_outlasts (fun vs H Q E h=>?_) (fun cdv A outer s H vs Q E hr h=>?_)
 ·obtain ⟨v1,w1,v2,w2,b1,b2,g1,g2,ns1,ns2,o,rfl,_⟩:=h
  rfl
 obtain ⟨v1,w1,v2,w2,b1,b2,g1,g2,ns1,ns2,o,rfl,h1,h2,hd,q⟩:=h
 have hun2:=hunT hr
 refine ⟨_,pss_cons (ps_expr (pe_gotS G_check_hands (hr.mono (by omega)) rfl (takes_of rfl rfl rfl rfl) (pa_cons (pv 0) (pa_cons (pv 1) (pa_cons (pv 2) (pa_cons (pv 3) pa_nil))))))
  (pss_one (ps_ret (pe_got G_is_less (hr.mono (by omega)) rfl (pa_cons (pe_gotS G_rank (hr.mono (by omega)) rfl (takes_of rfl rfl rfl rfl) (pa_cons (pv 2) (pa_cons (pv 3) pa_nil))) (pa_cons (pe_gotS G_rank (hr.mono (by omega)) rfl (takes_of rfl rfl rfl rfl) (pa_cons (pv 0) (pa_cons (pv 1) pa_nil))) pa_nil))))),?_⟩
 refine ⟨_,rfl,_,rfl,_,rfl,_,rfl,v1,w1,v2,w2,b1,b2,g1,g2,ns1,ns2,o,rfl,h1,h2,hd,?_⟩
 cases hd with
 | k1 lo=>exact q
 | k2 a lo=>exact q
 | e1 a c lo=>exact q
 | e2 a c d lo=>exact q
 | fine n1 n2 e1 e2 =>
 intro H1 s1
 obtain ⟨ρ1,ρ2,r1,r2,q⟩:=q
 have h1a:=h1.sb0 s1
 have h2a:=h2.sb0 s1
 refine ⟨_,rfl,_,rfl,v2,w2,b2,ρ2,g2,rfl,h2a.bk,h2.ok,r2.ow,h2a.ga,r2.deep,r2.parts,n2,e2,r2.fit,fun x H2 s2 hx=>?_⟩
 refine ⟨_,rfl,_,rfl,v1,w1,b1,ρ1,g1,rfl,(h1a.sb0 s2).bk,h1.ok,r1.ow,(h1a.sb0 s2).ga,r1.deep,r1.parts,n1,e1,r1.fit,fun y H3 s3 hy=>?_⟩
 exact ⟨x,y,_,_,rfl,LA.sb hx s3,hy,r2.rd,q H3 ((s1.trans s2).trans s3)⟩
abbrev N_check_hands:List Str:=["book","grove","other_book","other"]
theorem sc_check_hands:FnScope N_check_hands ["book","grove","other_book","other"] (defScope s_check_hands):=⟨rfl,rfl,rfl,by decide +kernel,rfl,by decide +kernel,by decide +kernel⟩
theorem ok_check_hands {C_Book C_NoKind C_Endless:Addr} (B:BI mg) (G_check_kinds:GotX P w K mg base "check_kinds" ["book","grove"] (72) (spCheckKX K C_Book C_NoKind)) (G_check_ends:GotX P w K mg base "check_ends" ["book","grove"] (72) (spChkEX K C_Book C_NoKind C_Endless)) (F:Fun K "check_hands" "check_hands" s_check_hands f fd):FnOk P w K mg base (L2.CX P w) (74) f fd ["book","grove","other_book","other"] (spHands K C_Book C_NoKind C_Endless):=by
 refine F.okX sc_check_hands (fun vs H Q E h=>?_) (fun cdv A outer s H vs Q E hr h=>?_)
 ·obtain ⟨v1,w1,v2,w2,b1,b2,g1,g2,ns1,ns2,o,rfl,_⟩:=h
  rfl
 obtain ⟨v1,w1,v2,w2,b1,b2,g1,g2,ns1,ns2,o,rfl,h1,h2,hd,q⟩:=h
 have hun2:=hunT hr
 refine ⟨_,pss_cons (ps_expr (pe_gotS G_check_kinds (hr.mono (by omega)) rfl (takes_of rfl rfl rfl rfl) (pa_cons (pv 0) (pa_cons (pv 1) pa_nil))))
  (pss_cons (ps_expr (pe_gotS G_check_kinds (hr.mono (by omega)) rfl (takes_of rfl rfl rfl rfl) (pa_cons (pv 2) (pa_cons (pv 3) pa_nil))))
  (pss_cons (ps_expr (pe_gotS G_check_ends (hr.mono (by omega)) rfl (takes_of rfl rfl rfl rfl) (pa_cons (pv 0) (pa_cons (pv 1) pa_nil))))
  (pss_one (ps_expr (pe_gotS G_check_ends (hr.mono (by omega)) rfl (takes_of rfl rfl rfl rfl) (pa_cons (pv 2) (pa_cons (pv 3) pa_nil))))))),?_⟩
 have l1:=h1.ok.len
 have l2:=h2.ok.len
 refine ⟨_,rfl,_,rfl,v1,w1,b1,g1,ns1,rfl,h1.bk,h1.ga,by omega,h1.deep,h1.parts,h1.nm,h1.nl,fun n1 H1 s1=>?_,fun n lo d H1 s1 nd hd1=>?_⟩
 rotate_left
 ·obtain rfl:=hd.uniq (.k1 lo)
  exact q d H1 s1 nd hd1
 have h2a:=h2.sb0 s1
 refine ⟨_,rfl,_,rfl,v2,w2,b2,g2,ns2,rfl,h2a.bk,h2a.ga,by omega,h2.deep,h2.parts,h2.nm,h2.nl,fun n2 H2 s2=>?_,fun n lo d H2 s2 nd hd1=>?_⟩
 rotate_left
 ·obtain rfl:=hd.uniq (.k2 n1 lo)
  exact q d H2 (s1.trans s2) (s1.dom _ nd) hd1
 have s02:=s1.trans s2
 have h1b:=h1.sb0 s02
 refine ⟨_,rfl,_,rfl,v1,w1,b1,g1,rfl,h1b.bk,h1.ok,h1b.ga,h1.deep,h1.parts,n1,fun e1 H3 s3=>?_,fun n lo d H3 s3 nd hd1=>?_⟩
 rotate_left
 ·obtain rfl:=hd.uniq (.e1 n1 n2 lo)
  exact q d H3 (s02.trans s3) (s02.dom _ nd) hd1
 have s03:=s02.trans s3
 have h2c:=h2.sb0 s03
 refine ⟨_,rfl,_,rfl,v2,w2,b2,g2,rfl,h2c.bk,h2.ok,h2c.ga,h2.deep,h2.parts,n2,fun e2 H4 s4=>?_,fun n lo d H4 s4 nd hd1=>?_⟩
 rotate_left
 ·obtain rfl:=hd.uniq (.e2 n1 n2 e1 lo)
  exact q d H4 (s03.trans s4) (s03.dom _ nd) hd1
 obtain rfl:=hd.uniq (.fine n1 n2 e1 e2)
 exact q H4 (s03.trans s4)
abbrev N__law_pot:List Str:=["_law_script"]
theorem sc__law_pot:FnScope N__law_pot ["_law_script"] (defScope s__law_pot):=⟨rfl,rfl,rfl,by decide +kernel,rfl,by decide +kernel,by decide +kernel⟩
theorem ok__law_pot (B:BI mg) (F:Fun K "_law_pot" "_law_pot" s__law_pot f fd):FnOk P w K mg base CX0 (1) f fd ["_law_script"] (spPot K):=by
 refine F.ok sc__law_pot (fun vs H Q E h=>?_) (fun cdv A outer s H vs Q E hr h=>?_)
 ·obtain ⟨a,ns,rfl,_⟩:=h
  rfl
 obtain ⟨a,ns,rfl,hs,nl,q⟩:=h
 have hun2:=hunT hr
 refine ⟨_,pss_one (ps_ret (pe_disp (pps_cons pe_str (pe_callTy call_list_of rfl B.list boot_list (pa_cons (pv 0) pa_nil)) (pps_cons pe_str pe_int (pps_cons pe_str pe_int (pps_cons pe_str (pe_op op_add pe_int (pe_callB call_len_seq rfl B.len PySem.boot_len (pa_cons (pv 0) pa_nil))) pps_nil)))) (by rfl) (by rfl) (fun z=>by cases z) (by decide))),?_⟩
 have szl:=sizeLine_eq
 refine fun p np=>?_
 have t0:=SB.new (ps:=[]) np (.dK [])
 have hp0:upd H p (.dK []) p=some (.dK []):=upd_same
 generalize upd H p (.dK [])=H0 at t0 hp0
 refine ⟨_,rfl,a,_,rfl,.inl (t0.sqL nmn hs),fun c nc=>?_⟩
 have t1:=SB.new (ps:=[]) nc (.lst (ns.map V.int))
 have hc1:upd H0 c (.lst (ns.map V.int)) c=some (.lst (ns.map V.int)):=upd_same
 have hp1:=t1.keep _ _ hp0 nmn
 have cp:c ≠ p:=fun z=>by rw [z,hp0] at nc; cases nc
 have s01:=t0.trans t1
 generalize upd H0 c (.lst (ns.map V.int))=H1 at t1 hc1 hp1 s01
 refine ⟨_,rfl,a,_,rfl,.inl (s01.sqL nmn hs),_,_,rfl,rfl,?_⟩
 rw [List.length_map]
 refine ⟨hp1,[(Sum.inr "cells",.ref c),(Sum.inr "at",.int 0),(Sum.inr "left",.int 0),(Sum.inr "seed",.int (20011+(ns.length:Nat)))],rfl,by show 4<=15; decide,?_⟩
 have t2:=SB.setD (ps:=[p]) hp1 (by simp) (.dK (potK c 0 0 (20011+(ns.length:Nat))))
 refine q p _ ((s01.nil.trans t2).drop np) np ⟨c,ns,0,0,20011+(ns.length:Nat),upd_same,t2.keep _ _ hc1 (by simpa using cp),nl,by omega,by omega,⟨by omega,by decide⟩,by omega,?_⟩
 have:(2:Int) ^ 31=2147483648:=by decide
 omega
abbrev N__law_take:List Str:=["_law_pot_here","_law_many","_law_cell","_law_digit","_law_seed"]
theorem sc__law_take:FnScope N__law_take ["_law_pot_here","_law_many"] (defScope s__law_take):=⟨rfl,rfl,rfl,by decide +kernel,rfl,by decide +kernel,by decide +kernel⟩
theorem ok__law_take (B:BI mg) (F:Fun K "_law_take" "_law_take" s__law_take f fd):FnOk P w K mg base CX0 (1) f fd ["_law_pot_here","_law_many"] (spTakeR):=by
 refine F.ok sc__law_take (fun vs H Q E h=>?_) (fun cdv A outer s H vs Q E hr h=>?_)
 ·obtain ⟨p,c,m,rfl,_⟩:=h
  rfl
 obtain ⟨p,c,m,rfl,hp,m1,m2,q⟩:=h
 have hun2:=hunT hr
 refine ⟨_,pss_cons (ps_if (PW.pt (pw_and (pt_cmpR op_eq (pe_dget (by show A.units+3+1 < cLine; omega) (pv 0) pe_str (fun _ _=>rfl)) pe_int (nomark _)) (pw_and1 (pt_cmpR op_lt (pe_dget (by show A.units+3+1 < cLine; omega) (pv 0) pe_str (fun _ _=>rfl)) (pe_callB call_len_seq rfl B.len PySem.boot_len (pa_cons (pe_dget (by show A.units+3+1 < cLine; omega) (pv 0) pe_str (fun _ _=>rfl)) pa_nil)) (nomark _))))) (pss_cons (ps_set (i:=2) sc__law_take.nd rfl (.inl rfl) (pe_ix ix_list (pe_dget (by show A.units+3+1 < cLine; omega) (pv 0) pe_str (fun _ _=>rfl)) (pe_dget (by show A.units+3+1 < cLine; omega) (pv 0) pe_str (fun _ _=>rfl)) (fun _ _=>rfl)))
  (pss_cons (ps_daug (by show A.units+3+1 < cLine; omega) (pv 0) pe_str pe_int in_add (fun _ _ _=>rfl))
  (pss_one (ps_if (PW.pt (pw_or (pt_cmpR op_ge (pv 2) (pe_op op_pow pe_int pe_int) (nomark _)) (pw_or1 (pt_cmpR op_lt (pv 2) pe_int (nomark _))))) (pss_one (ps_dput (by show A.units+3+1 < cLine; omega) (pv 0) pe_str (pe_op op_mod (pe_callB call_abs rfl B.abs boot_abs (pa_cons (pv 2) pa_nil)) (pe_op op_mulW (pe_op op_mulW (pe_op op_mulW (pe_op op_mulW (pe_op op_pow pe_int pe_int) (pe_op op_pow pe_int pe_int)) (pe_op op_pow pe_int pe_int)) (pe_op op_pow pe_int pe_int)) (pe_op op_pow pe_int pe_int))) rfl)) (pss_one (ps_dput (by show A.units+3+1 < cLine; omega) (pv 0) pe_str (pe_op op_mod (pe_op op_add (pe_op op_mul (pe_dget (by show A.units+3+1 < cLine; omega) (pv 0) pe_str (fun _ _=>rfl)) pe_int) (pe_op op_mod (pv 2) pe_int)) pe_int) rfl)))))) pss_nil)
  (pss_cons (ps_if (pt_cmpR op_gt (pe_dget (by show A.units+3+1 < cLine; omega) (pv 0) pe_str (fun _ _=>rfl)) pe_int (nomark _)) (pss_cons (ps_set (i:=3) sc__law_take.nd rfl (.inl rfl) (pe_op op_mod (pe_dget (by show A.units+3+1 < cLine; omega) (pv 0) pe_str (fun _ _=>rfl)) (pv 1)))
  (pss_cons (ps_dput (by show A.units+3+1 < cLine; omega) (pv 0) pe_str (pe_op op_fdivW (pe_dget (by show A.units+3+1 < cLine; omega) (pv 0) pe_str (fun _ _=>rfl)) (pv 1)) rfl)
  (pss_one (ps_ret (pv 3))))) pss_nil)
  (pss_cons (ps_set (i:=4) sc__law_take.nd rfl (.inl rfl) (pe_op op_mod (pe_op op_add (pe_op op_mul (pe_dget (by show A.units+3+1 < cLine; omega) (pv 0) pe_str (fun _ _=>rfl)) pe_int) pe_int) pe_int))
  (pss_cons (ps_dput (by show A.units+3+1 < cLine; omega) (pv 0) pe_str (pv 4) rfl)
  (pss_one (ps_ret (pe_op op_mod (pe_op op_add (pe_op op_mul (pe_op op_mod (pe_op op_mul (pv 4) (pv 4)) pe_int) pe_int) (pe_op op_fdivW (pv 4) pe_int)) (pv 1))))))),?_⟩
 have szl:=sizeLine_eq
 obtain ⟨ns,a,l,s,hp0,hc,nl,a0,a1,⟨l0,l1⟩,⟨s0,s1⟩⟩:=hp
 refine seq_via (fun σ' G=>∃ (a l s:Int) (o2:Option V),σ'=[some (.ref p),some (.int m),o2,none,none]/\SB [p] H G/\G p=some (.dK (potK c a l s))/\G c=some (.lst (ns.map V.int))/\0<=a/\a<=ns.length/\(0<=l/\l < 10 ^ 320)/\(0<=s/\s < 2 ^ 31)) (fun nx hnx=>?_) (fun σ' G h=>?_)
 ·have cp:c ≠ p:=fun z=>by rw [z,hp0] at hc; cases hc
  have stay:SB [p] H H:=SB.refl
  have e31:(2:Int) ^ 31=2147483648:=by decide
  refine ⟨_,rfl,p,_,rfl,getK hp0 (pot_left _ _ _ _),rfl,_,rfl,?_⟩
  by_cases h0:l=0
  ·rw [show decide (V.int l=V.int 0)=true from decide_eq_true (by rw [h0])]
   refine iteT ?_
   refine ⟨_,rfl,p,_,rfl,getK hp0 (pot_at _ _ _ _),_,rfl,p,_,rfl,getK hp0 (pot_cells _ _ _ _),c,_,rfl,.inl (SqL.of hc),_,_,rfl,rfl,_,rfl,?_⟩
   rw [List.length_map]
   by_cases h1:a < ns.length
   ·rw [decide_eq_true h1]
    refine iteT ?_
    obtain ⟨j,rfl⟩:∃ j:Nat,a=(j:Int):=⟨a.toNat,by omega⟩
    have ej:ns[j]?=some ns[j]:=List.getElem?_eq_getElem (by omega)
    generalize ns[j]=x at ej
    refine ⟨_,rfl,p,_,rfl,getK hp0 (pot_cells _ _ _ _),_,rfl,p,_,rfl,getK hp0 (pot_at _ _ _ _),c,_,_,_,rfl,rfl,SqL.of hc,atI_nat (j:=j) (by rw [List.getElem?_map,ej]; rfl),?_⟩
    refine nameI ?_
    refine ⟨_,rfl,p,_,rfl,getK hp0 (pot_at _ _ _ _),_,_,rfl,rfl,_,DPut.k (k:=Sum.inr "at") hp0 (by show 4 < sizeLine; decide),?_⟩
    have t1:=SB.setD (ps:=[p]) hp0 (by simp) (.dK (potK c ((j:Int)+1) l s))
    have hp1:upd H p (.dK (potK c ((j:Int)+1) l s)) p=some (.dK (potK c ((j:Int)+1) l s)):=upd_same
    have hc1:=t1.keep _ _ hc (by simpa using cp)
    rw [put_at]
    generalize upd H p (.dK (potK c ((j:Int)+1) l s))=H1 at t1 hp1 hc1
    refine ⟨_,rfl,10,18,rfl,rfl,⟨by decide,by decide⟩,_,_,rfl,rfl,_,rfl,?_⟩
    by_cases g1:(10:Int) ^ (18:Int).toNat<=x
    ·rw [decide_eq_true g1]
     refine iteT ?_
     refine ⟨_,rfl,x,rfl,10,64,rfl,rfl,⟨by decide,by decide⟩,10,64,rfl,rfl,⟨by decide,by decide⟩,_,_,rfl,rfl,by unfold CMulW; decide +kernel,10,64,rfl,rfl,⟨by decide,by decide⟩,_,_,rfl,rfl,by unfold CMulW; decide +kernel,10,64,rfl,rfl,⟨by decide,by decide⟩,_,_,rfl,rfl,by unfold CMulW; decide +kernel,10,64,rfl,rfl,⟨by decide,by decide⟩,_,_,rfl,rfl,by unfold CMulW; decide +kernel,_,_,rfl,rfl,(by show (0:Int) < 10 ^ Int.toNat 64*10 ^ Int.toNat 64*10 ^ Int.toNat 64*10 ^ Int.toNat 64*10 ^ Int.toNat 64; decide +kernel),?_⟩
     refine ⟨_,rfl,p,_,rfl,DPut.k (k:=Sum.inr "left") hp1 (by show 4 < sizeLine; decide),?_⟩
     have t2:=SB.setD (ps:=[p]) hp1 (by simp) (.dK (potK c ((j:Int)+1) ((if x < 0 then -x else x) % (10 ^ 320)) s))
     refine hnx _ _ ⟨(j:Int)+1,(if x < 0 then -x else x) % (10 ^ 320),s,_,rfl,t1.trans t2,upd_same,t2.keep _ _ hc1 (by simpa using cp),by omega,by omega,⟨Int.emod_nonneg _ (by decide),Int.emod_lt_of_pos _ (by decide)⟩,⟨s0,s1⟩⟩
    rw [decide_eq_false g1]
    refine iteF ⟨_,rfl,_,_,rfl,rfl,_,rfl,?_⟩
    by_cases g2:x < 0
    ·rw [decide_eq_true g2]
     refine iteT ?_
     refine ⟨_,rfl,x,rfl,10,64,rfl,rfl,⟨by decide,by decide⟩,10,64,rfl,rfl,⟨by decide,by decide⟩,_,_,rfl,rfl,by unfold CMulW; decide +kernel,10,64,rfl,rfl,⟨by decide,by decide⟩,_,_,rfl,rfl,by unfold CMulW; decide +kernel,10,64,rfl,rfl,⟨by decide,by decide⟩,_,_,rfl,rfl,by unfold CMulW; decide +kernel,10,64,rfl,rfl,⟨by decide,by decide⟩,_,_,rfl,rfl,by unfold CMulW; decide +kernel,_,_,rfl,rfl,(by show (0:Int) < 10 ^ Int.toNat 64*10 ^ Int.toNat 64*10 ^ Int.toNat 64*10 ^ Int.toNat 64*10 ^ Int.toNat 64; decide +kernel),?_⟩
     refine ⟨_,rfl,p,_,rfl,DPut.k (k:=Sum.inr "left") hp1 (by show 4 < sizeLine; decide),?_⟩
     have t2:=SB.setD (ps:=[p]) hp1 (by simp) (.dK (potK c ((j:Int)+1) ((if x < 0 then -x else x) % (10 ^ 320)) s))
     refine hnx _ _ ⟨(j:Int)+1,(if x < 0 then -x else x) % (10 ^ 320),s,_,rfl,t1.trans t2,upd_same,t2.keep _ _ hc1 (by simpa using cp),by omega,by omega,⟨Int.emod_nonneg _ (by decide),Int.emod_lt_of_pos _ (by decide)⟩,⟨s0,s1⟩⟩
    rw [decide_eq_false g2]
    refine iteF ?_
    refine ⟨_,rfl,p,_,rfl,getK hp1 (pot_seed _ _ _ _),_,_,rfl,rfl,.inr ⟨by decide,by decide⟩,_,rfl,_,_,rfl,rfl,(by show (0:Int) < 2147483629; decide),_,_,rfl,rfl,_,_,rfl,rfl,(by show (0:Int) < 2147483647; decide),?_⟩
    refine ⟨_,rfl,p,_,rfl,DPut.k (k:=Sum.inr "seed") hp1 (by show 4 < sizeLine; decide),?_⟩
    have t2:=SB.setD (ps:=[p]) hp1 (by simp) (.dK (potK c ((j:Int)+1) l ((s*48271+x % 2147483629) % 2147483647)))
    have b1:=Int.emod_nonneg (s*48271+x % 2147483629) (show (2147483647:Int) ≠ 0 by decide)
    have b2:=Int.emod_lt_of_pos (s*48271+x % 2147483629) (show (0:Int) < 2147483647 by decide)
    exact hnx _ _ ⟨(j:Int)+1,l,(s*48271+x % 2147483629) % 2147483647,_,rfl,t1.trans t2,upd_same,t2.keep _ _ hc1 (by simpa using cp),by omega,by omega,⟨l0,l1⟩,by omega,by omega⟩
   ·rw [decide_eq_false h1]
    exact iteF (hnx _ _ ⟨a,l,s,_,rfl,stay,hp0,hc,a0,a1,⟨l0,l1⟩,⟨s0,s1⟩⟩)
  ·rw [show decide (V.int l=V.int 0)=false from decide_eq_false (fun z=>h0 (by injection z))]
   exact iteF (hnx _ _ ⟨a,l,s,_,rfl,stay,hp0,hc,a0,a1,⟨l0,l1⟩,⟨s0,s1⟩⟩)
 ·obtain ⟨a,l,s,o2,rfl,s2,hp2,hc2,a0,a1,⟨l0,l1⟩,⟨s0,s1⟩⟩:=h
  have cp:c ≠ p:=fun z=>by rw [z,hp2] at hc2; cases hc2
  refine seq_via (fun σ' G2=>σ'=[some (.ref p),some (.int m),o2,none,none]/\G2=G/\l=0) (fun nx hnx=>?_) (fun σ' G2 h=>?_)
  ·refine ⟨_,rfl,p,_,rfl,getK hp2 (pot_left _ _ _ _),_,_,rfl,rfl,_,rfl,?_⟩
   by_cases h0:0 < l
   ·rw [decide_eq_true h0]
    refine iteT ?_
    refine ⟨_,rfl,p,_,rfl,getK hp2 (pot_left _ _ _ _),_,rfl,_,_,rfl,rfl,(show (0:Int) < m by omega),?_⟩
    refine nameI ?_
    refine ⟨_,rfl,p,_,rfl,getK hp2 (pot_left _ _ _ _),_,rfl,_,_,rfl,rfl,⟨by omega,Nat.lt_of_lt_of_le ((Nat.log2_lt (show m.natAbs ≠ 0 by omega)).mpr (show m.natAbs < 2 ^ 2000 by omega)) (by decide)⟩,?_⟩
    refine ⟨_,rfl,p,_,rfl,DPut.k (k:=Sum.inr "left") hp2 (by show 4 < sizeLine; decide),?_⟩
    have t2:=SB.setD (ps:=[p]) hp2 (by simp) (.dK (potK c a (l / m) s))
    refine ⟨_,rfl,q _ _ (Int.emod_nonneg _ (by omega)) (Int.emod_lt_of_pos _ (by omega)) (s2.trans t2) ⟨ns,a,l / m,s,upd_same,t2.keep _ _ hc2 (by simpa using cp),nl,a0,a1,⟨Int.ediv_nonneg l0 (by omega),Int.lt_of_le_of_lt (Int.ediv_le_self m l0) l1⟩,⟨s0,s1⟩⟩⟩
   ·rw [decide_eq_false h0]
    exact iteF (hnx _ _ ⟨rfl,rfl,by omega⟩)
  ·obtain ⟨rfl,rfl,rfl⟩:=h
   have e31:(2:Int) ^ 31=2147483648:=by decide
   refine ⟨_,rfl,p,_,rfl,getK hp2 (pot_seed _ _ _ _),_,_,rfl,rfl,.inr ⟨by decide,by decide⟩,_,_,rfl,rfl,_,_,rfl,rfl,(by show (0:Int) < 2147483629; decide),?_⟩
   have b1:=Int.emod_nonneg (s*69621+16807) (show (2147483629:Int) ≠ 0 by decide)
   have b2:=Int.emod_lt_of_pos (s*69621+16807) (show (0:Int) < 2147483629 by decide)
   refine nameI ?_
   refine ⟨_,rfl,_,rfl,p,_,rfl,DPut.k (k:=Sum.inr "seed") hp2 (by show 4 < sizeLine; decide),?_⟩
   have t2:=SB.setD (ps:=[p]) hp2 (by simp) (.dK (potK c a 0 ((s*69621+16807) % 2147483629)))
   have m1:CMul ((s*69621+16807) % 2147483629) ((s*69621+16807) % 2147483629):=.inl ⟨Int.lt_of_lt_of_le (by decide) b1,Int.lt_trans b2 (by decide)⟩
   refine ⟨_,rfl,_,rfl,_,_,rfl,rfl,m1,_,_,rfl,rfl,(by show (0:Int) < 2147483587; decide),_,_,rfl,rfl,.inr ⟨by decide,by decide⟩,_,rfl,_,_,rfl,rfl,⟨by decide,by decide⟩,_,_,rfl,rfl,_,rfl,_,_,rfl,rfl,(show (0:Int) < m by omega),?_⟩
   exact q _ _ (Int.emod_nonneg _ (by omega)) (Int.emod_lt_of_pos _ (by omega)) (s2.trans t2) ⟨ns,a,0,((s*69621+16807) % 2147483629),upd_same,t2.keep _ _ hc2 (by simpa using cp),nl,a0,a1,⟨by omega,by decide⟩,⟨b1,by omega⟩⟩
abbrev N__law_less:List Str:=["_law_one","_law_other","_law_pair","_law_more"]
theorem sc__law_less:FnScope N__law_less ["_law_one","_law_other"] (defScope s__law_less):=⟨rfl,rfl,rfl,by decide +kernel,rfl,by decide +kernel,by decide +kernel⟩
theorem none__law_lessq {ps:List Str} {k:Nat}:FnOk P w K mg base CX0 k f fd ps (spLLess K 0):=none_sp fun vs H Q E ⟨v,u,l,k,_,_,_,h,_⟩=>by omega
theorem ok__law_less {n:Nat} (B:BI mg) (G__law_less:Got P w K mg base "_law_less" ["_law_one","_law_other"] (n) (spLLess K n)) (F:Fun K "_law_less" "_law_less" s__law_less f fd):FnOk P w K mg base CX0 (n+1) f fd ["_law_one","_law_other"] (spLLess K (n+1)):=by
 refine F.ok sc__law_less (fun vs H Q E h=>?_) (fun cdv A outer s H vs Q E hr h=>?_)
 ·obtain ⟨v,u,l,o,rfl,_⟩:=h
  rfl
 obtain ⟨v,u,l,o,rfl,hv,hu,hdn,hd,hd2,q⟩:=h
 have hun2:=hunT hr
 refine ⟨_,pss_cons (ps_for PassesOwn.never rfl (RZ.pi_zipA rfl B.zip (pa_cons (pv 0) (pa_cons (pv 1) pa_nil))) (pg_tup rfl (pgs_cons (pg_name (i:=2) sc__law_less.nd rfl (.inl rfl)) (pgs_cons (pg_name (i:=3) sc__law_less.nd rfl (.inl rfl)) pgs_nil)))
   (pss_one (ps_if (pt_cmpR (op_neD (by show A.units+3+64 < cLine; omega)) (pv 2) (pv 3) (nomark _)) (pss_cons (ps_if (pt_cmpR (op_neD (by show A.units+3+64 < cLine; omega)) (pe_ix ix_tup (pv 2) pe_int (fun _ _=>rfl)) (pe_ix ix_tup (pv 3) pe_int (fun _ _=>rfl)) (nomark _)) (pss_one (ps_ret (pe_got G__law_less (hr.mono (by omega)) rfl (pa_cons (pe_ix ix_tup (pv 2) pe_int (fun _ _=>rfl)) (pa_cons (pe_ix ix_tup (pv 3) pe_int (fun _ _=>rfl)) pa_nil))))) pss_nil)
  (pss_one (ps_ret (pe_cmpR op_lt (pe_ix ix_tup (pv 2) pe_int (fun _ _=>rfl)) (pe_ix ix_tup (pv 3) pe_int (fun _ _=>rfl)) (nomark _))))) pss_nil)))
  (pss_one (ps_ret (pe_cmpR op_lt (pe_callB call_len_seq rfl B.len PySem.boot_len (pa_cons (pv 0) pa_nil)) (pe_callB call_len_seq rfl B.len PySem.boot_len (pa_cons (pv 1) pa_nil)) (nomark _)))),?_⟩
 have szl:=sizeLine_eq
 obtain ⟨a,xs,rfl,hsa,hba⟩:=LA_bears hv
 obtain ⟨b,ys,rfl,hsb,hbb⟩:=LA_bears hu
 have xl:=hba.length
 have yl:=hbb.length
 refine ⟨_,rfl,_,rfl,a,b,xs,ys,rfl,.inr ⟨hsa,hsb,?_⟩⟩
 refine for_it (walk_zipT (xs:=xs) (ys:=ys) (n:=min xs.length ys.length) rfl) (fun i σ H2=>SB [] H H2/\(∃ o2 o3:Option V,σ=[some (.ref a),some (.ref b),o2,o3])/\i<=l.ps.length/\i<=o.ps.length/\l.lt o=(Lad.ofPs (l.ps.drop i)).lt (Lad.ofPs (o.ps.drop i))) ⟨SB.refl,⟨none,none,rfl⟩,Nat.zero_le _,Nat.zero_le _,by rw [List.drop_zero,List.drop_zero,Lad.ofPs_ps,Lad.ofPs_ps]⟩ (fun i σ H2 hi h2=>⟨h2.1.sqT hsa,h2.1.sqT hsb⟩) (fun i x σ H2 H' hi h2 y=>?_) (fun σ H2 h2=>?_)
 ·obtain ⟨s2,⟨o2,o3,rfl⟩,il,io,hlt⟩:=h2
  obtain ⟨T,e1,e2,rfl,hT,rfl,ee1,ee2⟩:=y
  obtain ⟨p1,ep1,hp1⟩:=hba.get ee1
  obtain ⟨p2,ep2,hp2⟩:=hbb.get ee2
  obtain ⟨a1,u1,rfl,hs1,hl1⟩:=LA_pair hp1
  obtain ⟨a2,u2,rfl,hs2,hl2⟩:=LA_pair hp2
  have d1:=l.mem_deep p1 (List.mem_of_getElem? ep1)
  have d2:=o.mem_deep p2 (List.mem_of_getElem? ep2)
  have i1:=(List.getElem?_eq_some_iff.mp ep1).1
  have i2:=(List.getElem?_eq_some_iff.mp ep2).1
  rw [Lad.lt_drop ep1 ep2] at hlt
  have t3:=SB.new (ps:=[]) hT (.tup [.ref a1,.ref a2])
  have hT3:SqT K (upd H2 T (.tup [.ref a1,.ref a2])) T [.ref a1,.ref a2]:=SqT.of upd_same
  have s3:=s2.trans t3
  generalize upd H2 T (.tup [.ref a1,.ref a2])=H3 at t3 hT3 s3
  have hp13:=Dp_sb s3 _ _ (Lad.pEnc_noList _) hp1
  have hp23:=Dp_sb s3 _ _ (Lad.pEnc_noList _) hp2
  refine ⟨T,_,rfl,hT3,rfl,_,_,rfl,_,_,rfl,rfl,?_⟩
  refine ⟨_,rfl,_,rfl,Lad.pEnc p1,Lad.pEnc p2,hp13,hp23,Lad.shaped_pEnc (by omega),Lad.shaped_pEnc (by omega),_,rfl,?_⟩
  rw [Lad.eqv_pEnc]
  by_cases he:p1.1=p2.1
  ·by_cases hm:p1.2=p2.2
   ·rw [show (!(decide (p1.1=p2.1)&&decide (p1.2=p2.2)))=false by simp [he,hm]]
    rw [if_pos he,if_pos hm] at hlt
    exact iteF ⟨s3,⟨_,_,rfl⟩,by omega,by omega,hlt⟩
   ·rw [show (!(decide (p1.1=p2.1)&&decide (p1.2=p2.2)))=true by simp [hm]]
    rw [if_pos he,if_neg hm] at hlt
    refine iteT ?_
    refine ⟨_,rfl,a1,_,_,_,rfl,rfl,s3.sqT hs1,atI_nat (j:=0) rfl,_,rfl,a2,_,_,_,rfl,rfl,s3.sqT hs2,atI_nat (j:=0) rfl,p1.1.enc,p2.1.enc,hl1.sb s3,hl2.sb s3,Lad.shaped_enc (by omega),Lad.shaped_enc (by omega),_,rfl,?_⟩
    rw [Lad.eqv_enc,show (!decide (p1.1=p2.1))=false by simp [he]]
    refine iteF ?_
    refine ⟨_,rfl,a1,_,_,_,rfl,rfl,s3.sqT hs1,atI_nat (j:=1) rfl,_,rfl,a2,_,_,_,rfl,rfl,s3.sqT hs2,atI_nat (j:=1) rfl,_,_,rfl,rfl,?_⟩
    have:=q H3 s3
    rw [hlt] at this
    exact this
  ·rw [show (!(decide (p1.1=p2.1)&&decide (p1.2=p2.2)))=true by simp [he]]
   rw [if_neg he] at hlt
   refine iteT ?_
   refine ⟨_,rfl,a1,_,_,_,rfl,rfl,s3.sqT hs1,atI_nat (j:=0) rfl,_,rfl,a2,_,_,_,rfl,rfl,s3.sqT hs2,atI_nat (j:=0) rfl,p1.1.enc,p2.1.enc,hl1.sb s3,hl2.sb s3,Lad.shaped_enc (by omega),Lad.shaped_enc (by omega),_,rfl,?_⟩
   rw [Lad.eqv_enc,show (!decide (p1.1=p2.1))=true by simp [he]]
   refine iteT ?_
   refine ⟨_,rfl,a1,_,_,_,rfl,rfl,s3.sqT hs1,atI_nat (j:=0) rfl,_,rfl,a2,_,_,_,rfl,rfl,s3.sqT hs2,atI_nat (j:=0) rfl,u1,u2,p1.1,p2.1,rfl,hl1.sb s3,hl2.sb s3,by omega,by omega,by omega,fun H4 s4=>?_⟩
   have:=q H4 (s3.trans s4)
   rw [hlt] at this
   exact this
 ·obtain ⟨s2,⟨o2,o3,rfl⟩,il,io,hlt⟩:=h2
  have hend:=Lad.lt_end il io (by omega)
  refine ⟨_,rfl,a,xs,rfl,.inr (s2.sqT hsa),_,rfl,b,ys,rfl,.inr (s2.sqT hsb),_,_,rfl,rfl,?_⟩
  have:=q H2 s2
  rw [hlt,hend] at this
  have e:decide ((xs.length:Int) < (ys.length:Int))=(decide (min xs.length ys.length=l.ps.length)&&decide (min xs.length ys.length < o.ps.length)):=by
   by_cases h:xs.length < ys.length
   ·have h1:min xs.length ys.length=l.ps.length:=by omega
    have h2:min xs.length ys.length < o.ps.length:=by omega
    rw [decide_eq_true h1,decide_eq_true h2,decide_eq_true (by omega)]; rfl
   ·have h2:¬ min xs.length ys.length < o.ps.length:=by omega
    rw [decide_eq_false h2,Bool.and_false,decide_eq_false (by omega)]
  rw [<- e] at this
  exact this
abbrev N__law_behind:List Str:=["_law_one","_law_other","_law_first","_law_kept","_law_same","_law_pair"]
theorem sc__law_behind:FnScope N__law_behind ["_law_one","_law_other"] (defScope s__law_behind):=⟨rfl,rfl,rfl,by decide +kernel,rfl,by decide +kernel,by decide +kernel⟩
theorem ok__law_behind (B:BI mg) (G__law_less:Got P w K mg base "_law_less" ["_law_one","_law_other"] (40) (spLLess K 40)) (F:Fun K "_law_behind" "_law_behind" s__law_behind f fd):FnOk P w K mg base CX0 (41) f fd ["_law_one","_law_other"] (spBehindL K):=by
 refine F.ok sc__law_behind (fun vs H Q E h=>?_) (fun cdv A outer s H vs Q E hr h=>?_)
 ·obtain ⟨v,u,l,k,rfl,_⟩:=h
  rfl
 obtain ⟨v,u,l,k,rfl,hv,hu,hd,hd2,hp,hp2,q⟩:=h
 have hun2:=hunT hr
 refine ⟨_,pss_cons (ps_if (pt_cmpR (op_eqD (by show A.units+3+64 < cLine; omega)) (pv 1) (pe_tup pa_nil) (nomark _)) (pss_one (ps_ret (pv 0))) pss_nil)
  (pss_cons (ps_set (i:=2) sc__law_behind.nd rfl (.inr rfl) (pe_ix ix_tup (pe_ix ix_tup (pv 1) pe_int (fun _ _=>rfl)) pe_int (fun _ _=>rfl)))
  (pss_cons (ps_setLc (i:=3) (own:=[("_law_pair",5)]) (g:=(gName 5)) (tt:=(tB (tCall (spLLess K 40) [] E0 (tCons (tVar 2) (tCons (tOp (rIxT K) (tVar 5) (tC (.int 0))) tNil))))) (te:=(tVar 5)) rfl sc__law_behind.nd rfl rfl (sw_true rfl rfl rfl (by decide +kernel)) (pi_tup (pv 0)) (blkOk_by (N:=N__law_behind) (sc:=defScope s__law_behind) (by decide +kernel)) (fun _ _ _ _ _=>(pg_name (i:=5) sc__law_behind.nd rfl (.inl rfl))) (fun _ _ _ _ _=>(pts_one (pt_val (pe_got G__law_less (hr.mono (by omega)) rfl (pa_cons (pv 2) (pa_cons (pe_ix ix_tup (pv 5) pe_int (fun _ _=>rfl)) pa_nil)))))) (fun _ _ _ _ _=>(pv 5)))
  (pss_cons (ps_setLc (i:=4) (own:=[("_law_pair",5)]) (g:=(gName 5)) (tt:=(tTest (tOp (rEqD K) (tOp (rIxT K) (tVar 5) (tC (.int 0))) (tVar 2)))) (te:=(tOp (rIxT K) (tVar 5) (tC (.int 1)))) rfl sc__law_behind.nd rfl rfl (sw_true rfl rfl rfl (by decide +kernel)) (pi_tup (pv 0)) (blkOk_by (N:=N__law_behind) (sc:=defScope s__law_behind) (by decide +kernel)) (fun _ _ _ _ _=>(pg_name (i:=5) sc__law_behind.nd rfl (.inl rfl))) (fun _ _ _ _ _=>(pts_one (pt_cmpR (op_eqD (by show A.units+3+64 < cLine; omega)) (pe_ix ix_tup (pv 5) pe_int (fun _ _=>rfl)) (pv 2) (nomark _)))) (fun _ _ _ _ _=>(pe_ix ix_tup (pv 5) pe_int (fun _ _=>rfl))))
  (pss_one (ps_ret (pe_op op_catB (pe_op op_catB (pe_callTy call_tuple_of rfl B.tuple boot_tuple (pa_cons (pv 3) pa_nil)) (pe_tup (pa_cons (pe_tup (pa_cons (pv 2) (pa_cons (pe_op op_add (pe_ix ix_tup (pe_ix ix_tup (pv 1) pe_int (fun _ _=>rfl)) pe_int (fun _ _=>rfl)) (pe_callB (cr_sum rfl) rfl B.sum boot_sum (pa_cons (pv 4) pa_nil))) pa_nil))) pa_nil))) (pe_slice sl_tupB (pv 1) (po_some pe_int) po_none))))))),?_⟩
 have szl:=sizeLine_eq
 obtain ⟨a,xs,rfl,hsa,hba⟩:=LA_bears hv
 obtain ⟨b,ys,rfl,hsb,hbb⟩:=LA_bears hu
 have xl:=hba.length
 have lp:=l.len_parts
 rw [<- Lad.ps_length] at lp
 refine ⟨_,rfl,by show 0<=sizeLine; decide,fun z nz=>?_⟩
 have t1:=SB.new (ps:=[]) nz (.tup [])
 have hz1:upd H z (.tup []) z=some (.tup []):=upd_same
 generalize upd H z (.tup [])=H1 at t1 hz1
 refine ⟨k.enc,Lad.enc .nil,LA.sb hu t1,LA_nil (SqT.of hz1),Lad.shaped_enc (by omega),Lad.shaped_enc (by decide),_,rfl,?_⟩
 rw [Lad.eqv_enc]
 cases k with
 | nil =>
  refine iteT ⟨_,rfl,?_⟩
  have:=q (.ref a) H1 t1
  rw [Lad.bhd_nil] at this
  exact this (LA.sb hv t1)
 | cons e m r =>
  refine iteF ?_
  rw [show (Lad.cons e m r).ps=(e,m)::r.ps from rfl] at hbb
  cases hbb with
  | @cons y0 yr _ _ h0 hbr =>
  obtain ⟨c,ue,rfl,hsc,hle⟩:=LA_pair h0
  have ed:e.deep < (Lad.cons e m r).deep:=Lad.mem_deep (.cons e m r) (e,m) (mcs ..)
  refine ⟨_,rfl,b,_,_,.ref c,rfl,rfl,t1.sqT hsb,atI_nat (j:=0) rfl,c,_,_,ue,rfl,rfl,t1.sqT hsc,atI_nat (j:=0) rfl,?_⟩
  refine ⟨_,rfl,a,rfl,⟨xs,t1.sqT hsa⟩,fun D nD=>?_⟩
  refine lc_seq (walk_tup (xs:=xs)) nD (by omega) (fun i ws H2=>Bears K H2 Lad.pEnc ws ((l.ps.take i).filter fun p=>e.lt p.1)) .nil (fun H2 s2=>(t1.trans s2).sqT hsa) (fun _ _ _ _ s h=>h.sb s Lad.pEnc_noList) (fun Pv i x Hq H2 ws hi s2 y hR hu2 fin skip=>?_) (fun ws H3 s3 hD3 hR hu2=>?_)
  ·obtain ⟨rfl,ey⟩:=y
   obtain ⟨p,ep,hpd⟩:=hba.get ey
   obtain ⟨ad,ux,rfl,hs2,hla⟩:=LA_pair hpd
   have s12:=t1.trans s2
   have pd:=l.mem_deep p (List.mem_of_getElem? ep)
   refine ⟨rfl,?_⟩
   refine ⟨_,rfl,_,rfl,ad,_,_,ux,rfl,rfl,s12.sqT hs2,atI_nat (j:=0) rfl,ue,ux,e,p.1,rfl,LA.sb hle s12,LA.sb hla s12,by omega,by omega,by omega,fun H4 s4=>⟨_,rfl,?_⟩⟩
   have e0:(l.ps.take (i+1)).filter (fun p=>e.lt p.1)=(l.ps.take i).filter (fun p=>e.lt p.1)++(if e.lt p.1=true then [p] else []):=by
    rw [List.take_add_one,ep,List.filter_append]
    cases hc:e.lt p.1 <;> simp [hc]
   cases hc:e.lt p.1 with
   | true =>
    refine iteT ⟨_,rfl,fin _ _ s4 ?_⟩
    rw [e0,if_pos hc]
    exact (hR.sb s4 Lad.pEnc_noList).append (.cons (Dp_sb (s12.trans s4) _ _ (Lad.pEnc_noList _) hpd) .nil)
   | false =>
    refine iteF (skip _ s4 ?_)
    rw [e0,if_neg (by simp [hc]),List.append_nil]
    exact hR.sb s4 Lad.pEnc_noList
  rw [xl,List.take_length] at hR
  have s03:=t1.trans s3
  refine ⟨_,rfl,a,rfl,⟨xs,s03.sqT hsa⟩,fun D2 nD2=>?_⟩
  refine lc_seq (walk_tup (xs:=xs)) nD2 (by omega) (fun i ws _=>ws=(((l.ps.take i).filter fun x=>decide (x.1=e)).map (·.2)).map V.int) rfl (fun H2 s2=>(s03.trans s2).sqT hsa) (fun _ _ _ _ _ h=>h) (fun Pv i x Hq H2 ws2 hi s2 y hR2 hu3 fin skip=>?_) (fun ws2 H4 s4 hD4 hR2 hu3=>?_)
  ·obtain ⟨rfl,ey⟩:=y
   obtain ⟨p,ep,hpd⟩:=hba.get ey
   obtain ⟨ad,ux,rfl,hs2,hla⟩:=LA_pair hpd
   have s12:=s03.trans s2
   have pd:=l.mem_deep p (List.mem_of_getElem? ep)
   refine ⟨rfl,?_⟩
   refine ⟨_,rfl,ad,_,_,ux,rfl,rfl,s12.sqT hs2,atI_nat (j:=0) rfl,_,rfl,p.1.enc,e.enc,LA.sb hla s12,LA.sb hle s12,Lad.shaped_enc (by omega),Lad.shaped_enc (by omega),_,rfl,?_⟩
   rw [Lad.eqv_enc]
   by_cases he:p.1=e
   ·rw [decide_eq_true he]
    refine iteT ⟨_,rfl,ad,_,_,_,rfl,rfl,s12.sqT hs2,atI_nat (j:=1) rfl,fin _ _ SB.refl ?_⟩
    rw [hR2,List.take_add_one,ep]
    simp [he]
   ·rw [decide_eq_false he]
    refine iteF (skip _ SB.refl ?_)
    rw [hR2,List.take_add_one,ep]
    simp [he]
  rw [xl,List.take_length] at hR2
  subst hR2
  refine nameI ?_
  have s04:=s03.trans s4
  have hD34:=s4.keep _ _ hD3 nmn
  have hR4:=hR.sb s4 Lad.pEnc_noList
  refine ⟨_,rfl,D,ws,rfl,.inl ⟨SqL.of hD34,fun kt hkt=>?_⟩⟩
  have s5:=SB.new (ps:=[]) hkt (.tup ws)
  have hkt5:upd H4 kt (.tup ws) kt=some (.tup ws):=upd_same
  have hR5:=hR4.sb s5 Lad.pEnc_noList
  have hD25:=s5.keep _ _ hD4 nmn
  have s05:=s04.trans s5
  generalize upd H4 kt (.tup ws)=H5 at s5 hkt5 hR5 s05 hD25
  refine ⟨_,rfl,_,rfl,b,_,_,.ref c,rfl,rfl,s05.sqT hsb,atI_nat (j:=0) rfl,c,_,_,_,rfl,rfl,s05.sqT hsc,atI_nat (j:=1) rfl,_,rfl,D2,_,rfl,SqL.of hD25,?_⟩
  rw [sum_at]
  refine ⟨_,_,rfl,rfl,(by show 2<=sizeLine; decide),fun t1' ht1=>?_⟩
  have s6:=SB.new (ps:=[]) ht1 (.tup [ue,.int (m+Lad.sumAt l.ps e)])
  have ht6:upd H5 t1' (.tup [ue,.int (m+Lad.sumAt l.ps e)]) t1'=some (.tup [ue,.int (m+Lad.sumAt l.ps e)]):=upd_same
  generalize upd H5 t1' (.tup [ue,.int (m+Lad.sumAt l.ps e)])=H6 at s6 ht6
  refine ⟨(by show 1<=sizeLine; decide),fun t2 ht2=>?_⟩
  have s7:=SB.new (ps:=[]) ht2 (.tup [.ref t1'])
  have ht7:upd H6 t2 (.tup [.ref t1']) t2=some (.tup [.ref t1']):=upd_same
  have ht67:=s7.sqT (SqT.of (K:=K) ht6)
  generalize upd H6 t2 (.tup [.ref t1'])=H7 at s7 ht7 ht67
  have al:=hR.length
  have fl:=List.length_filter_le (fun p:Lad × Int=>e.lt p.1) l.ps
  have s57:=s6.trans s7
  refine ⟨kt,t2,_,_,rfl,rfl,s57.sqT (SqT.of hkt5),SqT.of ht7,by rw [List.length_singleton]; omega,fun c1 H8 s8 hc1=>?_⟩
  have s08:=(s05.trans s57).trans s8
  refine ⟨_,rfl,1,rfl,b,_,rfl,s08.sqT hsb,fun c2 H9 s9 hc2=>?_⟩
  have e1:cutV (V.ref c::yr) (some 1) none=yr:=by
   have:=cutDrop (V.ref c::yr) 1
   exact this
  rw [e1] at hc2
  have rl:=hbr.length
  have rp:=(Lad.cons e m r).len_parts
  have rp2:r.ps.length+1=(Lad.cons e m r).len:=by rw [<- Lad.ps_length]; rfl
  refine ⟨c1,c2,_,_,rfl,rfl,s9.sqT hc1,hc2,by rw [List.length_append,List.length_singleton]; omega,fun c3 H10 s10 hc3=>?_⟩
  have s010:=(s08.trans s9).trans s10
  refine q _ _ s010 ?_
  rw [Lad.bhd_cons,Int.add_comm (Lad.sumAt l.ps e) m]
  refine Bears_la hc3 ?_
  have z1:=((s57.trans s8).trans s9).trans s10
  rw [List.append_assoc]
  refine Bears.append (hR5.sb z1 Lad.pEnc_noList) (.cons ?_ (hbr.sb s010 Lad.pEnc_noList))
  exact Dp.tup (((s8.trans s9).trans s10).sqT ht67) (.cons (LA.sb hle s010) (.cons (.int _) .nil))
abbrev N__law_both:List Str:=["_law_one","_law_other","_law_found","_law_left","_law_right"]
theorem sc__law_both:FnScope N__law_both ["_law_one","_law_other"] (defScope s__law_both):=⟨rfl,rfl,rfl,by decide +kernel,rfl,by decide +kernel,by decide +kernel⟩
theorem ok__law_both (B:BI mg) (G__law_less:Got P w K mg base "_law_less" ["_law_one","_law_other"] (40) (spLLess K 40)) (F:Fun K "_law_both" "_law_both" s__law_both f fd):FnOk P w K mg base CX0 (41) f fd ["_law_one","_law_other"] (spBothL K):=by
 refine F.ok sc__law_both (fun vs H Q E h=>?_) (fun cdv A outer s H vs Q E hr h=>?_)
 ·obtain ⟨v,u,l,k,rfl,_⟩:=h
  rfl
 obtain ⟨v,u,l,k,rfl,hv,hu,hd,hd2,hp,hp2,q⟩:=h
 have hun2:=hunT hr
 refine ⟨_,pss_cons (ps_set (i:=2) sc__law_both.nd rfl (.inl rfl) (pe_lst pa_nil))
  (pss_cons (ps_set (i:=3) sc__law_both.nd rfl (.inl rfl) (pe_callTy call_list_of rfl B.list boot_list (pa_cons (pv 0) pa_nil)))
  (pss_cons (ps_set (i:=4) sc__law_both.nd rfl (.inl rfl) (pe_callTy call_list_of rfl B.list boot_list (pa_cons (pv 1) pa_nil)))
  (pss_cons (ps_while PassesOwn.never (PW.pt (pw_and (pt_cmpR (op_neD (by show A.units+3+64 < cLine; omega)) (pv 3) (pe_lst pa_nil) (nomark _)) (pw_and1 (pt_cmpR (op_neD (by show A.units+3+64 < cLine; omega)) (pv 4) (pe_lst pa_nil) (nomark _))))) (pss_one (ps_if (pt_cmpR (op_eqD (by show A.units+3+64 < cLine; omega)) (pe_ix ix_tup (pe_ix ix_list (pv 3) pe_int (fun _ _=>rfl)) pe_int (fun _ _=>rfl)) (pe_ix ix_tup (pe_ix ix_list (pv 4) pe_int (fun _ _=>rfl)) pe_int (fun _ _=>rfl)) (nomark _)) (pss_one (ps_expr (pe_bm PySem.F.plainAttrs_list PySem.F.slot_list_append PySem.F.type_list_append mt_append (pv 2) (pa_cons (pe_tup (pa_cons (pe_ix ix_tup (pe_ix ix_list (pv 3) pe_int (fun _ _=>rfl)) pe_int (fun _ _=>rfl)) (pa_cons (pe_op op_add (pe_ix ix_tup (pe_bm PySem.F.plainAttrs_list PySem.F.slot_list_pop PySem.F.type_list_pop mt_popAt (pv 3) (pa_cons pe_int pa_nil)) pe_int (fun _ _=>rfl)) (pe_ix ix_tup (pe_bm PySem.F.plainAttrs_list PySem.F.slot_list_pop PySem.F.type_list_pop mt_popAt (pv 4) (pa_cons pe_int pa_nil)) pe_int (fun _ _=>rfl))) pa_nil))) pa_nil)))) (pss_one (ps_if (pt_val (pe_got G__law_less (hr.mono (by omega)) rfl (pa_cons (pe_ix ix_tup (pe_ix ix_list (pv 3) pe_int (fun _ _=>rfl)) pe_int (fun _ _=>rfl)) (pa_cons (pe_ix ix_tup (pe_ix ix_list (pv 4) pe_int (fun _ _=>rfl)) pe_int (fun _ _=>rfl)) pa_nil)))) (pss_one (ps_expr (pe_bm PySem.F.plainAttrs_list PySem.F.slot_list_append PySem.F.type_list_append mt_append (pv 2) (pa_cons (pe_bm PySem.F.plainAttrs_list PySem.F.slot_list_pop PySem.F.type_list_pop mt_popAt (pv 4) (pa_cons pe_int pa_nil)) pa_nil)))) (pss_one (ps_expr (pe_bm PySem.F.plainAttrs_list PySem.F.slot_list_append PySem.F.type_list_append mt_append (pv 2) (pa_cons (pe_bm PySem.F.plainAttrs_list PySem.F.slot_list_pop PySem.F.type_list_pop mt_popAt (pv 3) (pa_cons pe_int pa_nil)) pa_nil)))))))))
  (pss_one (ps_ret (pe_callTy call_tuple_of rfl B.tuple boot_tuple (pa_cons (pe_op op_cat (pe_op op_cat (pv 2) (pv 3)) (pv 4)) pa_nil))))))),?_⟩
 have szl:=sizeLine_eq
 obtain ⟨a,xs,rfl,hsa,hba⟩:=LA_bears hv
 obtain ⟨b,ys,rfl,hsb,hbb⟩:=LA_bears hu
 have xl:=hba.length
 have yl:=hbb.length
 have llp:=l.len_parts
 have klp:=k.len_parts
 rw [<- Lad.ps_length] at llp klp
 have ld:∀ p ∈ l.ps,p.1.deep<=30:=fun p hp=>by have:=l.mem_deep p hp; omega
 have kd:∀ p ∈ k.ps,p.1.deep<=30:=fun p hp=>by have:=k.mem_deep p hp; omega
 refine ⟨by show 0<=sizeLine; decide,fun D hD=>?_⟩
 have t0:=SB.new (ps:=[]) hD (.lst [])
 have hD0:upd H D (.lst []) D=some (.lst []):=upd_same
 generalize upd H D (.lst [])=H0 at t0 hD0
 refine nameI ?_
 refine ⟨_,rfl,a,_,rfl,.inr (t0.sqT hsa),fun A hA=>?_⟩
 have t1:=SB.new (ps:=[]) hA (.lst xs)
 have hA1:upd H0 A (.lst xs) A=some (.lst xs):=upd_same
 have hD1:=t1.keep _ _ hD0 nmn
 have DA:D ≠ A:=ne_of_none hD0 hA
 have s1:=t0.trans t1
 have nA:H A=none:=t0.dom _ hA
 generalize upd H0 A (.lst xs)=H1 at t1 hA1 hD1 s1
 refine nameI ?_
 refine ⟨_,rfl,b,_,rfl,.inr (s1.sqT hsb),fun B hB=>?_⟩
 have t2:=SB.new (ps:=[]) hB (.lst ys)
 have hB2:upd H1 B (.lst ys) B=some (.lst ys):=upd_same
 have hD2:=t2.keep _ _ hD1 nmn
 have hA2:=t2.keep _ _ hA1 nmn
 have DB:D ≠ B:=ne_of_none hD1 hB
 have AB:A ≠ B:=ne_of_none hA1 hB
 have s2:=s1.trans t2
 have nB:H B=none:=s1.dom _ hB
 generalize upd H1 B (.lst ys)=H2 at t2 hB2 hD2 hA2 s2
 refine nameI ?_
 refine ⟨fun mm σ G=>∃ (F L R:List (Lad × Int)) (fs ls rs:List V),mm=L.length+R.length/\SB [D,A,B] H G/\σ=[some (.ref a),some (.ref b),some (.ref D),some (.ref A),some (.ref B)]/\G D=some (.lst fs)/\G A=some (.lst ls)/\G B=some (.lst rs)/\Bears K G Lad.pEnc fs F/\Bears K G Lad.pEnc ls L/\Bears K G Lad.pEnc rs R/\Lad.mrg l k=Lad.ofPs (F++(Lad.mrg (Lad.ofPs L) (Lad.ofPs R)).ps)/\F.length+L.length+R.length<=9000000/\(∀ p ∈ L,p.1.deep<=30)/\(∀ p ∈ R,p.1.deep<=30),
  ⟨_,[],l.ps,k.ps,[],xs,ys,rfl,s2.nil,rfl,hD2,hA2,hB2,.nil,hba.sb s2 Lad.pEnc_noList,hbb.sb s2 Lad.pEnc_noList,by rw [List.nil_append,Lad.ofPs_ps,Lad.ofPs_ps,Lad.ofPs_ps],by show 0+_+_<=_; omega,ld,kd⟩,fun mm σ G hG=>?_⟩
 obtain ⟨F,L,R,fs,ls,rs,rfl,s3,rfl,hD3,hA3,hB3,hF,hL,hR,hmr,hlen,Ld,Rd⟩:=hG
 have fl:=hF.length
 have ll:=hL.length
 have rl:=hR.length
 -- what is behind the loop
 have fin:L=[]\/R=[]->∀ G2,SB [] G G2->tRet (tCB (fun xs H_1 Q=>∃ p ys,xs=[V.ref p]/\((SqL K H_1 p ys/\∀ l,H_1 l=none->Q (V.ref l) (upd H_1 l (HO.tup ys)))\/(SqT K H_1 p ys/\Q (V.ref p) H_1))) (tCons (tOp rCat (tOp rCat (tVar 2) (tVar 3)) (tVar 4)) tNil)) { nx:=fun x H'=>Q V.non H',rt:=Q } [some (.ref a),some (.ref b),some (.ref D),some (.ref A),some (.ref B)] G2:=fun hor G2 u=>by
  have hD4:=u.keep _ _ hD3 nmn
  have hA4:=u.keep _ _ hA3 nmn
  have hB4:=u.keep _ _ hB3 nmn
  refine ⟨_,rfl,_,rfl,D,A,_,_,rfl,rfl,hD4,hA4,by omega,fun M hM=>?_⟩
  have t5:=SB.new (ps:=[]) hM (.lst (fs++ls))
  have hM5:upd G2 M (.lst (fs++ls)) M=some (.lst (fs++ls)):=upd_same
  have hB5:=t5.keep _ _ hB4 nmn
  generalize upd G2 M (.lst (fs++ls))=G5 at t5 hM5 hB5
  refine ⟨_,rfl,M,B,_,_,rfl,rfl,hM5,hB5,by rw [List.length_append]; omega,fun N hN=>?_⟩
  have t6:=SB.new (ps:=[]) hN (.lst (fs++ls++rs))
  have hN6:upd G5 N (.lst (fs++ls++rs)) N=some (.lst (fs++ls++rs)):=upd_same
  generalize upd G5 N (.lst (fs++ls++rs))=G6 at t6 hN6
  refine ⟨N,_,rfl,.inl ⟨SqL.of hN6,fun T nT=>?_⟩⟩
  have t7:=SB.new (ps:=[]) nT (.tup (fs++ls++rs))
  have u7:=((u.trans t5).trans t6).trans t7
  refine q (.ref T) _ ((((s3.trans u7.nil).drop hD).drop nA).drop nB) ?_
  have e:Lad.mrg l k=Lad.ofPs (F++L++R):=by
   rw [hmr]
   rcases hor with h | h
   ·rw [h,show Lad.ofPs ([]:List (Lad × Int))=.nil from rfl,Lad.mrg_nil_l,Lad.ps_ofPs,List.append_nil]
   ·rw [h,show Lad.ofPs ([]:List (Lad × Int))=.nil from rfl,Lad.mrg_nil_r,Lad.ps_ofPs,List.append_nil]
  rw [e]
  exact Bears_la (SqT.of upd_same) (((hF.sb u7 Lad.pEnc_noList).append (hL.sb u7 Lad.pEnc_noList)).append (hR.sb u7 Lad.pEnc_noList))
 refine ⟨_,rfl,by show 0<=sizeLine; decide,fun z0 nz0=>?_⟩
 have t4:=SB.new (ps:=[]) nz0 (.lst [])
 have hz4:upd G z0 (.lst []) z0=some (.lst []):=upd_same
 generalize upd G z0 (.lst [])=G4 at t4 hz4
 refine ⟨.list (L.map Lad.pEnc),.list [],Dp.lst (SqL.of (t4.keep _ _ hA3 nmn)) (Bears_dp (hL.sb t4 Lad.pEnc_noList)),Dp.lst (SqL.of hz4) .nil,Lad.shaped_rowsL Ld,by decide +kernel,_,rfl,?_⟩
 cases hLc:L with
 | nil =>
  rw [show (!PyData.eqv (.list (([]:List (Lad × Int)).map Lad.pEnc)) (.list []))=false by simp [PyData.eqv,PyData.eqvAll]]
  exact iteF (iteF (fin (.inl hLc) G4 t4))
 | cons p1 L2 =>
 rw [show (!PyData.eqv (.list ((p1::L2).map Lad.pEnc)) (.list []))=true by simp [PyData.eqv,PyData.eqvAll]]
 refine iteT ?_
 refine ⟨_,rfl,by show 0<=sizeLine; decide,fun z1 nz1=>?_⟩
 have t5:=SB.new (ps:=[]) nz1 (.lst [])
 have hz5:upd G4 z1 (.lst []) z1=some (.lst []):=upd_same
 have u5:=t4.trans t5
 generalize upd G4 z1 (.lst [])=G5 at t5 hz5 u5
 have hD5:=u5.keep _ _ hD3 nmn
 have hA5:=u5.keep _ _ hA3 nmn
 have hB5:=u5.keep _ _ hB3 nmn
 have hF5:=hF.sb u5 Lad.pEnc_noList
 have hL5:=hL.sb u5 Lad.pEnc_noList
 have hR5:=hR.sb u5 Lad.pEnc_noList
 refine ⟨.list (R.map Lad.pEnc),.list [],Dp.lst (SqL.of hB5) (Bears_dp hR5),Dp.lst (SqL.of hz5) .nil,Lad.shaped_rowsL Rd,by decide +kernel,_,rfl,?_⟩
 cases hRc:R with
 | nil =>
  rw [show (!PyData.eqv (.list (([]:List (Lad × Int)).map Lad.pEnc)) (.list []))=false by simp [PyData.eqv,PyData.eqvAll]]
  exact iteF (fin (.inr hRc) G5 u5)
 | cons p2 R2 =>
 rw [show (!PyData.eqv (.list ((p2::R2).map Lad.pEnc)) (.list []))=true by simp [PyData.eqv,PyData.eqvAll]]
 refine iteT ⟨_,fun σ' H' h=>h,?_⟩
 subst hLc hRc
 have s5:SB [D,A,B] H G5:=s3.trans u5.nil
 cases hL5 with
 | @cons v1 ls2 _ _ hv1 hL5 =>
 cases hR5 with
 | @cons v2 rs2 _ _ hv2 hR5 =>
 obtain ⟨a1,u1,rfl,hs1,hl1⟩:=LA_pair hv1
 obtain ⟨a2,u2,rfl,hs2,hl2⟩:=LA_pair hv2
 obtain ⟨e1,m1⟩:=p1
 obtain ⟨e2,m2⟩:=p2
 have ed1:e1.deep<=30:=Ld (e1,m1) (mcs ..)
 have ed2:e2.deep<=30:=Rd (e2,m2) (mcs ..)
 have Ld2:∀ p ∈ L2,p.1.deep<=30:=fun p hp=>Ld p (mcm _ hp)
 have Rd2:∀ p ∈ R2,p.1.deep<=30:=fun p hp=>Rd p (mcm _ hp)
 rw [show Lad.ofPs ((e1,m1)::L2)=.cons e1 m1 (Lad.ofPs L2) from rfl,show Lad.ofPs ((e2,m2)::R2)=.cons e2 m2 (Lad.ofPs R2) from rfl,Lad.mrg_cons] at hmr
 have le1:((e1,m1)::L2).length=L2.length+1:=rfl
 have le2:((e2,m2)::R2).length=R2.length+1:=rfl
 rw [le1,le2] at hlen
 refine ⟨_,rfl,A,_,_,_,rfl,rfl,SqL.of hA5,atI_nat (j:=0) rfl,a1,_,_,_,rfl,rfl,hs1,atI_nat (j:=0) rfl,_,rfl,B,_,_,_,rfl,rfl,SqL.of hB5,atI_nat (j:=0) rfl,a2,_,_,_,rfl,rfl,hs2,atI_nat (j:=0) rfl,e1.enc,e2.enc,hl1,hl2,Lad.shaped_enc (by omega),Lad.shaped_enc (by omega),_,rfl,?_⟩
 rw [Lad.eqv_enc]
 by_cases he:e1=e2
 ·subst he
  rw [decide_eq_true rfl]
  rw [if_pos rfl] at hmr
  refine iteT ?_
  refine ⟨_,rfl,.inl ⟨rfl,_,SqL.of hD5⟩,_,rfl,A,_,_,_,rfl,rfl,SqL.of hA5,atI_nat (j:=0) rfl,a1,_,_,_,rfl,rfl,hs1,atI_nat (j:=0) rfl,?_⟩
  have zA:(V.ref a1::ls2).length=ls2.length+1:=rfl
  have zB:(V.ref a2::rs2).length=rs2.length+1:=rfl
  refine ⟨_,rfl,.inl ⟨rfl,_,SqL.of hA5⟩,A,_,_,0,.ref a1,rfl,rfl,hA5,by omega,by omega,by rw [PySem.seqIndex_of (by omega) (by omega)]; rfl,rfl,?_⟩
  have t6:=SB.set (ps:=[A]) hA5 (by simp) (.lst ls2)
  have hA6:upd G5 A (.lst ls2) A=some (.lst ls2):=upd_same
  have hB6:=t6.keep _ _ hB5 (by simpa using fun z:B=A=>AB z.symm)
  have hD6:=t6.keep _ _ hD5 (by simpa using DA)
  rw [show ((V.ref a1::ls2).eraseIdx 0)=ls2 from rfl]
  generalize upd G5 A (.lst ls2)=G6 at t6 hA6 hB6 hD6
  refine ⟨a1,_,_,_,rfl,rfl,t6.sqT hs1,atI_nat (j:=1) rfl,?_⟩
  refine ⟨_,rfl,.inl ⟨rfl,_,SqL.of hB6⟩,B,_,_,0,.ref a2,rfl,rfl,hB6,by omega,by omega,by rw [PySem.seqIndex_of (by omega) (by omega)]; rfl,rfl,?_⟩
  have t7:=SB.set (ps:=[B]) hB6 (by simp) (.lst rs2)
  have hB7:upd G6 B (.lst rs2) B=some (.lst rs2):=upd_same
  have hA7:=t7.keep _ _ hA6 (by simpa using AB)
  have hD7:=t7.keep _ _ hD6 (by simpa using DB)
  rw [show ((V.ref a2::rs2).eraseIdx 0)=rs2 from rfl]
  generalize upd G6 B (.lst rs2)=G7 at t7 hB7 hA7 hD7
  refine ⟨a2,_,_,_,rfl,rfl,t7.sqT (t6.sqT hs2),atI_nat (j:=1) rfl,_,_,rfl,rfl,?_⟩
  refine ⟨by show 2<=sizeLine; decide,fun T nT=>?_⟩
  have t8:=SB.new (ps:=[]) nT (.tup [u1,.int (m1+m2)])
  have hT8:SqT K (upd G7 T (.tup [u1,.int (m1+m2)])) T [u1,.int (m1+m2)]:=SqT.of upd_same
  have hA8:=t8.keep _ _ hA7 nmn
  have hB8:=t8.keep _ _ hB7 nmn
  have hD8:=t8.keep _ _ hD7 nmn
  generalize upd G7 T (.tup [u1,.int (m1+m2)])=G8 at t8 hT8 hA8 hB8 hD8
  have s58:SB [D,A,B] G5 G8:=((t6.mono (by simp)).trans (t7.mono (by simp))).trans t8.nil
  refine ⟨D,_,_,rfl,rfl,hD8,by omega,?_⟩
  have t9:=SB.set (ps:=[D]) hD8 (by simp) (.lst (fs++[.ref T]))
  have s59:SB [D,A,B] G5 _:=s58.trans (t9.mono (by simp))
  refine ⟨_,?_,F++[(e1,m1+m2)],L2,R2,fs++[.ref T],ls2,rs2,rfl,s5.trans s59,rfl,upd_same,t9.keep _ _ hA8 (by simpa using fun z:A=D=>DA z.symm),t9.keep _ _ hB8 (by simpa using fun z:B=D=>DB z.symm),(hF5.sb s59 Lad.pEnc_noList).append (.cons (Dp.tup (t9.sqT hT8) (.cons (LA.sb hl1 s59) (.cons (.int _) .nil))) .nil),hL5.sb s59 Lad.pEnc_noList,hR5.sb s59 Lad.pEnc_noList,?_,?_,Ld2,Rd2⟩
  ·rw [le1,le2]; omega
  ·rw [hmr,List.append_assoc]; rfl
  ·rw [List.length_append,List.length_singleton]; omega
 ·rw [decide_eq_false he]
  rw [if_neg he] at hmr
  refine iteF ?_
  refine ⟨_,rfl,A,_,_,_,rfl,rfl,SqL.of hA5,atI_nat (j:=0) rfl,a1,_,_,_,rfl,rfl,hs1,atI_nat (j:=0) rfl,_,rfl,B,_,_,_,rfl,rfl,SqL.of hB5,atI_nat (j:=0) rfl,a2,_,_,_,rfl,rfl,hs2,atI_nat (j:=0) rfl,u1,u2,e1,e2,rfl,hl1,hl2,by omega,by omega,by omega,fun G6 s6=>?_⟩
  have zA:(V.ref a1::ls2).length=ls2.length+1:=rfl
  have zB:(V.ref a2::rs2).length=rs2.length+1:=rfl
  have hA6:=s6.keep _ _ hA5 nmn
  have hB6:=s6.keep _ _ hB5 nmn
  have hD6:=s6.keep _ _ hD5 nmn
  cases hlt:e1.lt e2 with
  | true =>
   rw [if_pos hlt] at hmr
   refine ⟨_,rfl,iteT ?_⟩
   refine ⟨_,rfl,.inl ⟨rfl,_,SqL.of hD6⟩,_,rfl,.inl ⟨rfl,_,SqL.of hB6⟩,B,_,_,0,.ref a2,rfl,rfl,hB6,by omega,by omega,by rw [PySem.seqIndex_of (by omega) (by omega)]; rfl,rfl,?_⟩
   have t7:=SB.set (ps:=[B]) hB6 (by simp) (.lst rs2)
   have hB7:upd G6 B (.lst rs2) B=some (.lst rs2):=upd_same
   have hA7:=t7.keep _ _ hA6 (by simpa using AB)
   have hD7:=t7.keep _ _ hD6 (by simpa using DB)
   rw [show ((V.ref a2::rs2).eraseIdx 0)=rs2 from rfl]
   generalize upd G6 B (.lst rs2)=G7 at t7 hB7 hA7 hD7
   have s57:SB [D,A,B] G5 G7:=s6.nil.trans (t7.mono (by simp))
   refine ⟨D,_,_,rfl,rfl,hD7,by omega,?_⟩
   have t9:=SB.set (ps:=[D]) hD7 (by simp) (.lst (fs++[.ref a2]))
   have s59:SB [D,A,B] G5 _:=s57.trans (t9.mono (by simp))
   refine ⟨_,?_,F++[(e2,m2)],(e1,m1)::L2,R2,fs++[.ref a2],.ref a1::ls2,rs2,rfl,s5.trans s59,rfl,upd_same,t9.keep _ _ hA7 (by simpa using fun z:A=D=>DA z.symm),t9.keep _ _ hB7 (by simpa using fun z:B=D=>DB z.symm),(hF5.sb s59 Lad.pEnc_noList).append (.cons (Dp_sb s59 _ _ (Lad.pEnc_noList _) hv2) .nil),.cons (Dp_sb s59 _ _ (Lad.pEnc_noList _) hv1) (hL5.sb s59 Lad.pEnc_noList),hR5.sb s59 Lad.pEnc_noList,?_,?_,Ld,Rd2⟩
   ·rw [le1,le2]; omega
   ·rw [hmr,List.append_assoc]; rfl
   ·rw [List.length_append,List.length_singleton,le1]; omega
  | false =>
   rw [if_neg (by rw [hlt]; simp)] at hmr
   refine ⟨_,rfl,iteF ?_⟩
   refine ⟨_,rfl,.inl ⟨rfl,_,SqL.of hD6⟩,_,rfl,.inl ⟨rfl,_,SqL.of hA6⟩,A,_,_,0,.ref a1,rfl,rfl,hA6,by omega,by omega,by rw [PySem.seqIndex_of (by omega) (by omega)]; rfl,rfl,?_⟩
   have t7:=SB.set (ps:=[A]) hA6 (by simp) (.lst ls2)
   have hA7:upd G6 A (.lst ls2) A=some (.lst ls2):=upd_same
   have hB7:=t7.keep _ _ hB6 (by simpa using fun z:B=A=>AB z.symm)
   have hD7:=t7.keep _ _ hD6 (by simpa using DA)
   rw [show ((V.ref a1::ls2).eraseIdx 0)=ls2 from rfl]
   generalize upd G6 A (.lst ls2)=G7 at t7 hA7 hB7 hD7
   have s57:SB [D,A,B] G5 G7:=s6.nil.trans (t7.mono (by simp))
   refine ⟨D,_,_,rfl,rfl,hD7,by omega,?_⟩
   have t9:=SB.set (ps:=[D]) hD7 (by simp) (.lst (fs++[.ref a1]))
   have s59:SB [D,A,B] G5 _:=s57.trans (t9.mono (by simp))
   refine ⟨_,?_,F++[(e1,m1)],L2,(e2,m2)::R2,fs++[.ref a1],ls2,.ref a2::rs2,rfl,s5.trans s59,rfl,upd_same,t9.keep _ _ hA7 (by simpa using fun z:A=D=>DA z.symm),t9.keep _ _ hB7 (by simpa using fun z:B=D=>DB z.symm),(hF5.sb s59 Lad.pEnc_noList).append (.cons (Dp_sb s59 _ _ (Lad.pEnc_noList _) hv1) .nil),hL5.sb s59 Lad.pEnc_noList,.cons (Dp_sb s59 _ _ (Lad.pEnc_noList _) hv2) (hR5.sb s59 Lad.pEnc_noList),?_,?_,Ld2,Rd⟩
   ·rw [le1,le2]; omega
   ·rw [hmr,List.append_assoc]; rfl
   ·rw [List.length_append,List.length_singleton,le2]; omega
abbrev N__law_above:List Str:=["_law_one","_law_other","_law_first","_law_kept","_law_pair"]
theorem sc__law_above:FnScope N__law_above ["_law_one","_law_other"] (defScope s__law_above):=⟨rfl,rfl,rfl,by decide +kernel,rfl,by decide +kernel,by decide +kernel⟩
theorem ok__law_above (B:BI mg) (G__law_both:Got P w K mg base "_law_both" ["_law_one","_law_other"] (41) (spBothL K)) (G__law_less:Got P w K mg base "_law_less" ["_law_one","_law_other"] (40) (spLLess K 40)) (G__law_behind:Got P w K mg base "_law_behind" ["_law_one","_law_other"] (41) (spBehindL K)) (F:Fun K "_law_above" "_law_above" s__law_above f fd):FnOk P w K mg base CX0 (42) f fd ["_law_one","_law_other"] (spAboveL K):=by
 refine F.ok sc__law_above (fun vs H Q E h=>?_) (fun cdv A outer s H vs Q E hr h=>?_)
 ·obtain ⟨v,u,l,k,rfl,_⟩:=h
  rfl
 obtain ⟨v,u,l,k,rfl,hv,hu,hl,hk,hd,hd2,hp,hp2,q⟩:=h
 have hun2:=hunT hr
 refine ⟨_,pss_cons (ps_if (pt_cmpR (op_eqD (by show A.units+3+64 < cLine; omega)) (pv 1) (pe_tup pa_nil) (nomark _)) (pss_one (ps_ret (pe_got G__law_both (hr.mono (by omega)) rfl (pa_cons (pv 0) (pa_cons (pe_tup (pa_cons (pe_tup (pa_cons (pe_tup pa_nil) (pa_cons pe_int pa_nil))) pa_nil)) pa_nil))))) pss_nil)
  (pss_cons (ps_set (i:=2) sc__law_above.nd rfl (.inr rfl) (pe_ix ix_tup (pe_ix ix_tup (pv 1) pe_int (fun _ _=>rfl)) pe_int (fun _ _=>rfl)))
  (pss_cons (ps_set (i:=3) sc__law_above.nd rfl (.inl rfl) (pe_callTy call_tuple_of rfl B.tuple boot_tuple (pa_cons (pe_lc (own:=[("_law_pair",4)]) (g:=(gName 4)) (tt:=(tB (tCall (spLLess K 40) [] E0 (tCons (tVar 2) (tCons (tOp (rIxT K) (tVar 4) (tC (.int 0))) tNil))))) (te:=(tVar 4)) rfl sc__law_above.nd (pi_tup (pv 0)) (blkOk_by (N:=N__law_above) (sc:=defScope s__law_above) (by decide +kernel)) (fun _ _ _ _ _=>(pg_name (i:=4) sc__law_above.nd rfl (.inl rfl))) (fun _ _ _ _ _=>(pts_one (pt_val (pe_got G__law_less (hr.mono (by omega)) rfl (pa_cons (pv 2) (pa_cons (pe_ix ix_tup (pv 4) pe_int (fun _ _=>rfl)) pa_nil)))))) (fun _ _ _ _ _=>(pv 4))) pa_nil)))
  (pss_one (ps_ret (pe_got G__law_both (hr.mono (by omega)) rfl (pa_cons (pv 3) (pa_cons (pe_tup (pa_cons (pe_tup (pa_cons (pe_got G__law_behind (hr.mono (by omega)) rfl (pa_cons (pv 2) (pa_cons (pe_tup (pa_cons (pe_tup (pa_cons (pe_tup pa_nil) (pa_cons pe_int pa_nil))) pa_nil)) pa_nil))) (pa_cons pe_int pa_nil))) pa_nil)) pa_nil))))))),?_⟩
 have szl:=sizeLine_eq
 obtain ⟨a,xs,rfl,hsa,hba⟩:=LA_bears hv
 obtain ⟨b,ys,rfl,hsb,hbb⟩:=LA_bears hu
 have xl:=hba.length
 have lp:=l.len_parts
 rw [<- Lad.ps_length] at lp
 refine ⟨_,rfl,by show 0<=sizeLine; decide,fun z nz=>?_⟩
 have t1:=SB.new (ps:=[]) nz (.tup [])
 have hz1:upd H z (.tup []) z=some (.tup []):=upd_same
 generalize upd H z (.tup [])=H1 at t1 hz1
 refine ⟨k.enc,Lad.enc .nil,LA.sb hu t1,LA_nil (SqT.of hz1),Lad.shaped_enc (by omega),Lad.shaped_enc (by decide),_,rfl,?_⟩
 rw [Lad.eqv_enc]
 cases k with
 | nil =>
  refine iteT ⟨_,rfl,?_⟩
  refine consI (one_uno (K:=K) fun x1 H2 s2 hx1=>?_)
  refine ⟨.ref a,x1,l,Lad.uno,rfl,LA.sb (LA.sb hv t1) s2,hx1,by omega,by decide,by omega,by decide,fun x H3 s3 hx=>q x H3 ((t1.trans s2).trans s3) (by rw [Lad.mrg_bth hl Lad.R.uno] at hx; exact hx)⟩
 | cons e m r =>
  refine iteF ?_
  rw [show (Lad.cons e m r).ps=(e,m)::r.ps from rfl] at hbb
  cases hbb with
  | @cons y0 yr _ _ h0 hbr =>
  obtain ⟨c,ue,rfl,hsc,hle⟩:=LA_pair h0
  have ed:e.deep < (Lad.cons e m r).deep:=Lad.mem_deep (.cons e m r) (e,m) (mcs ..)
  have ept:e.parts<=(Lad.cons e m r).parts:=by show e.parts<=1+e.parts+r.parts; omega
  refine ⟨_,rfl,b,_,_,.ref c,rfl,rfl,t1.sqT hsb,atI_nat (j:=0) rfl,c,_,_,ue,rfl,rfl,t1.sqT hsc,atI_nat (j:=0) rfl,?_⟩
  refine ⟨_,rfl,a,rfl,⟨xs,t1.sqT hsa⟩,fun D nD=>?_⟩
  refine lc_seq (walk_tup (xs:=xs)) nD (by omega) (fun i ws H2=>Bears K H2 Lad.pEnc ws ((l.ps.take i).filter fun p=>e.lt p.1)) .nil (fun H2 s2=>(t1.trans s2).sqT hsa) (fun _ _ _ _ s h=>h.sb s Lad.pEnc_noList) (fun Pv i x Hq H2 ws hi s2 y hR hu2 fin skip=>?_) (fun ws H3 s3 hD3 hR hu2=>?_)
  ·obtain ⟨rfl,ey⟩:=y
   obtain ⟨p,ep,hpd⟩:=hba.get ey
   obtain ⟨ad,ux,rfl,hs2,hla⟩:=LA_pair hpd
   have s12:=t1.trans s2
   have pd:=l.mem_deep p (List.mem_of_getElem? ep)
   refine ⟨rfl,?_⟩
   refine ⟨_,rfl,_,rfl,ad,_,_,ux,rfl,rfl,s12.sqT hs2,atI_nat (j:=0) rfl,ue,ux,e,p.1,rfl,LA.sb hle s12,LA.sb hla s12,by omega,by omega,by omega,fun H4 s4=>⟨_,rfl,?_⟩⟩
   have e0:(l.ps.take (i+1)).filter (fun p=>e.lt p.1)=(l.ps.take i).filter (fun p=>e.lt p.1)++(if e.lt p.1=true then [p] else []):=by
    rw [List.take_add_one,ep,List.filter_append]
    cases hc:e.lt p.1 <;> simp [hc]
   cases hc:e.lt p.1 with
   | true =>
    refine iteT ⟨_,rfl,fin _ _ s4 ?_⟩
    rw [e0,if_pos hc]
    exact (hR.sb s4 Lad.pEnc_noList).append (.cons (Dp_sb (s12.trans s4) _ _ (Lad.pEnc_noList _) hpd) .nil)
   | false =>
    refine iteF (skip _ s4 ?_)
    rw [e0,if_neg (by simp [hc]),List.append_nil]
    exact hR.sb s4 Lad.pEnc_noList
  rw [xl,List.take_length] at hR
  have s03:=t1.trans s3
  refine ⟨D,ws,rfl,.inl ⟨SqL.of hD3,fun kt hkt=>?_⟩⟩
  have s5:=SB.new (ps:=[]) hkt (.tup ws)
  have kept:LA K (upd H3 kt (.tup ws)) (.ref kt) (Lad.ofPs (l.ps.filter fun p=>e.lt p.1)):=Bears_la (SqT.of upd_same) (hR.sb s5 Lad.pEnc_noList)
  have s05:=s03.trans s5
  generalize upd H3 kt (.tup ws)=H5 at s5 kept s05
  refine ⟨_,rfl,?_⟩
  refine consI (tupI (consI (tupI (consI ⟨_,rfl,consI (one_uno (K:=K) fun x1 H6 s6 hx1=>?_)⟩))))
  have eo:=hk.exp
  refine ⟨ue,x1,e,Lad.uno,rfl,LA.sb (LA.sb hle s05) s6,hx1,by omega,by decide,by omega,by decide,fun x2 H7 s7 hx2=>?_⟩
  have bo:=eo.bhd Lad.R.uno
  have fo:Lad.R (Lad.ofPs (l.ps.filter fun p=>e.lt p.1)):=by
   obtain ⟨B,hB,hb⟩:=hl
   exact ⟨B,hB,Lad.filter_ok hb _⟩
  have b1:=Lad.bhd_parts e Lad.uno
  have b2:=Lad.bhd_deep (n:=29) (l:=e) (k:=Lad.uno) (by omega) (by decide)
  have b3:=Lad.filter_parts l fun p=>e.lt p.1
  have b4:Lad.uno.parts=1:=rfl
  refine ⟨by show 2<=sizeLine; decide,fun t8 nt8=>?_⟩
  have s8:=SB.new (ps:=[]) nt8 (.tup [x2,.int 1])
  have ht8:upd H7 t8 (.tup [x2,.int 1]) t8=some (.tup [x2,.int 1]):=upd_same
  generalize upd H7 t8 (.tup [x2,.int 1])=H8 at s8 ht8
  refine ⟨by show 1<=sizeLine; decide,fun t9 nt9=>?_⟩
  have s9:=SB.new (ps:=[]) nt9 (.tup [.ref t8])
  have s59:=((s6.trans s7).trans s8).trans s9
  refine ⟨.ref kt,.ref t9,_,.cons (Lad.bhd e Lad.uno) 1 .nil,rfl,LA.sb kept s59,LA_one (SqT.of upd_same) (s9.sqT (SqT.of ht8)) (LA.sb hx2 (s8.trans s9)),Nat.le_trans (Lad.filter_deep _ hd) (by decide),by show max (1+(Lad.bhd e Lad.uno).deep) 0<=30; omega,by omega,by show 1+(Lad.bhd e Lad.uno).parts+0<=4000000; omega,fun x H' s10 hx=>q x H' ((s05.trans s59).trans s10) (by rw [Lad.mrg_bth fo bo.pow] at hx; exact hx)⟩
abbrev N__law_own:List Str:=["_law_book","_law_known","_law_name","_law_found","_law_once","_law_each","_law_more"]
theorem sc__law_own:FnScope N__law_own ["_law_book","_law_known","_law_name"] (defScope s__law_own):=⟨rfl,rfl,rfl,by decide +kernel,rfl,by decide +kernel,by decide +kernel⟩
theorem ok__law_own {n:Nat} (B:BI mg) (G__law_above:Got P w K mg base "_law_above" ["_law_one","_law_other"] (42) (spAboveL K)) (G__law_rank:Got P w K mg base "_law_rank" ["_law_book","_law_known","_law_grove"] (n+43) (spRkR K n)) (G__law_less:Got P w K mg base "_law_less" ["_law_one","_law_other"] (40) (spLLess K 40)) (F:Fun K "_law_own" "_law_own" s__law_own f fd):FnOk P w K mg base CX0 (n+44) f fd ["_law_book","_law_known","_law_name"] (spOwR K (n+1)):=by
 refine F.ok sc__law_own (fun vs H Q E h=>?_) (fun cdv A outer s H vs Q E hr h=>?_)
 ·obtain ⟨d,e,k,b,ρ,ns,ms,lv,rfl,_⟩:=h
  rfl
 obtain ⟨d,e,k,b,ρ,ns,ms,lv,rfl,hd,de,R,M,hk,hn,q⟩:=h
 have hun2:=hunT hr
 refine ⟨_,pss_cons (ps_if (pt_cmp (pc_dnotin (by show A.units+3+1 < cLine; omega) (pv 2) (pv 1))) (pss_cons (ps_set (i:=3) sc__law_own.nd rfl (.inl rfl) (pe_tup (pa_cons (pe_tup (pa_cons (pe_tup pa_nil) (pa_cons pe_int pa_nil))) pa_nil)))
  (pss_cons (ps_for PassesOwn.never rfl (pi_list (pe_ix ix_tup (pe_dget (by show A.units+3+1 < cLine; omega) (pv 0) (pv 2) (fun _ _=>rfl)) pe_int (fun _ _=>rfl))) (pg_tup rfl (pgs_cons (pg_name (i:=4) sc__law_own.nd rfl (.inl rfl)) (pgs_cons (pg_name (i:=5) sc__law_own.nd rfl (.inl rfl)) pgs_nil)))
   (pss_cons (ps_set (i:=6) sc__law_own.nd rfl (.inl rfl) (pe_got G__law_above (hr.mono (by omega)) rfl (pa_cons (pe_got G__law_rank (hr.mono (by omega)) rfl (pa_cons (pv 0) (pa_cons (pv 1) (pa_cons (pv 4) pa_nil)))) (pa_cons (pe_got G__law_rank (hr.mono (by omega)) rfl (pa_cons (pv 0) (pa_cons (pv 1) (pa_cons (pv 5) pa_nil)))) pa_nil))))
  (pss_one (ps_if (pt_val (pe_got G__law_less (hr.mono (by omega)) rfl (pa_cons (pv 3) (pa_cons (pv 6) pa_nil)))) (pss_one (ps_set (i:=3) sc__law_own.nd rfl (.inl rfl) (pv 6))) pss_nil))))
  (pss_one (ps_dput (by show A.units+3+1 < cLine; omega) (pv 1) (pv 2) (pv 3) rfl)))) pss_nil)
  (pss_one (ps_ret (pe_dget (by show A.units+3+1 < cLine; omega) (pv 1) (pv 2) (fun _ _=>rfl)))),?_⟩
 have n8:=R.len
 by_cases hm:k ∈ ms
 ·obtain ⟨u,hu,hul⟩:=M.at_.val hm
  refine ⟨_,rfl,_,rfl,e,_,rfl,hu,_,rfl,iteF ?_⟩
  exact ⟨_,rfl,_,rfl,e,u,rfl,hu,q u H ms SB.refl M (fun m h=>.inl h) hul⟩
 obtain ⟨kd,eg⟩:=R.get k hk
 have few:=R.few k hk kd eg
 refine ⟨_,rfl,_,rfl,e,_,rfl,M.at_.none hm,_,rfl,iteT ?_⟩
 refine seqI (asgI (one_uno (K:=K) fun x1 H1 s1 hx1=>?_))
 refine nameI ?_
 have hd1:=hd.sb0 s1
 have M1:=M.sb0 s1
 obtain ⟨v,hv,t,l,zs,rfl,ht,hl,hb⟩:=hd1.val eg
 have zl:=hb.length
 have le:l ≠ e:=fun z=>by
  obtain ⟨kvs,h⟩:=M1.isD
  rw [z,h] at hl; cases hl
 have nE:∀ H2,SB [e] H1 H2->DkL K H2 d b:=fun H2 s2=>hd1.sb s2 (by simpa using de) (by obtain ⟨kvs,h⟩:=M1.isD; exact NoL.one h)
 refine ⟨_,rfl,_,rfl,d,_,rfl,hv,t,_,_,_,rfl,rfl,ht,atI_nat (j:=1) rfl,l,rfl,⟨zs,SqL.of hl⟩,?_⟩
 refine for_it (walk_list (xs:=zs)) (fun i σ H2=>SB [e] H1 H2/\∃ (f:V) (ms2:List Str) (o4 o5 o6:Option V),σ=[some (.ref d),some (.ref e),some (.str k),some f,o4,o5,o6]/\Memo K H2 e ρ ns ms2/\(∀ m ∈ ms2,m ∈ ms\/lv m < lv k)/\LA K H2 f (Lad.maxL Lad.uno ((kd.rs.take i).map (clm b ρ))))
  ⟨SB.refl,x1,ms,none,none,none,rfl,M1,fun m h=>.inl h,hx1⟩ (fun i σ H2 hi h=>h.1.sqL (by simpa using le) (SqL.of hl)) (fun i x σ H2' H2 hi h y=>?_) (fun σ H2 h=>?_)
 ·obtain ⟨s2,f,ms2,o4,o5,o6,rfl,M2,hms,hf⟩:=h
  obtain ⟨rfl,ey⟩:=y
  obtain ⟨r,er,hrd⟩:=hb.get ey
  have rm:=List.mem_of_getElem? er
  obtain ⟨⟨f1,g1⟩,f2,g2⟩:=R.rl k hk kd eg r rm
  obtain ⟨rok,rn1,rn2⟩:=R.nm k hk kd eg r rm
  have dwn:=R.down k hk kd eg r rm
  have rp:=rok.2.2
  have rd1:=within_deep r.1
  have rd2:=within_deep r.2
  cases Dp_sb s2 _ _ (Ru.noList_enc _) hrd with
  | @tup ad us' _ hs' hda =>
  cases hda with
  | cons hg1 hda =>
  cases hda with
  | cons hg2 hda =>
  cases hda
  have hg1:GA K _ _ r.1:=hg1
  have hg2:GA K _ _ r.2:=hg2
  refine ⟨ad,_,rfl,hs',rfl,_,_,rfl,_,_,rfl,rfl,?_⟩
  refine ⟨_,rfl,_,rfl,_,rfl,d,e,_,b,ρ,ns,ms2,lv,r.1,1000000001,lv k,rfl,nE _ s2,de,R,M2,⟨hg1,rok.1,f1,by omega,by omega⟩,fun x hx=>dwn x (List.mem_append.mpr (.inl hx)),by omega,fun x2 H3 ms3 s3 M3 h3 hx2=>?_⟩
  refine ⟨_,rfl,_,rfl,_,rfl,d,e,_,b,ρ,ns,ms3,lv,r.2,1000000001,lv k,rfl,nE _ (s2.trans s3),de,R,M3,⟨hg2.sb s3,rok.2.1,f2,by omega,by omega⟩,fun x hx=>dwn x (List.mem_append.mpr (.inr hx)),by omega,fun x3 H4 ms4 s4 M4 h4 hx3=>?_⟩
  have R1:=Gr.G_R (b:=b) R.toGoods rok.1 rn1
  have R2:=Gr.G_R (b:=b) R.toGoods rok.2.1 rn2
  have d1:=g1.deep
  have d2:=g2.deep
  have p1:=g1.parts
  have p2:=g2.parts
  refine ⟨x2,x3,_,_,rfl,hx2.sb s4,hx3,R1,R2,by omega,by omega,by omega,by omega,fun x4 H5 s5 hx4=>?_⟩
  refine nameI ?_
  have s34:=(s3.trans s4).trans s5.nil
  have mem:∀ m ∈ ms4,m ∈ ms\/lv m < lv k:=fun m hm4=>by
   rcases h4 m hm4 with z | z
   ·rcases h3 m z with z | z
    ·exact hms m z
    ·exact .inr z
   ·exact .inr z
  have dm:(Lad.maxL Lad.uno ((kd.rs.take i).map (clm b ρ))).deep<=30:=by
   rcases List.mem_cons.mp (Lad.maxL_mem ((kd.rs.take i).map (clm b ρ)) Lad.uno) with z | z
   ·rw [z]; decide
   ·obtain ⟨r',hr',e'⟩:=List.mem_map.mp z
    rw [<- e']
    obtain ⟨⟨_,g1⟩,_,g2⟩:=R.rl k hk kd eg r' (List.mem_of_mem_take hr')
    exact Lad.abv_deep (n:=30) g1.deep g2.deep (by decide)
  have da:((Gr.rk b ρ r.1).abv (Gr.rk b ρ r.2)).deep<=30:=Lad.abv_deep (n:=30) g1.deep g2.deep (by decide)
  have step:Lad.maxL Lad.uno ((kd.rs.take (i+1)).map (clm b ρ))=if (Lad.maxL Lad.uno ((kd.rs.take i).map (clm b ρ))).lt (clm b ρ r)=true then clm b ρ r else Lad.maxL Lad.uno ((kd.rs.take i).map (clm b ρ)):=by
   rw [List.take_add_one,er,List.map_append]
   exact Lad.maxL_snoc _ _ _
  refine ⟨_,rfl,_,rfl,f,x4,_,_,rfl,hf.sb s34,hx4,by omega,by omega,by omega,fun H6 s6=>⟨_,rfl,?_⟩⟩
  have s26:=(s2.trans s34).trans s6.nil
  by_cases hlt:(Lad.maxL Lad.uno ((kd.rs.take i).map (clm b ρ))).lt (clm b ρ r)=true
  ·have hlt':(Lad.maxL Lad.uno ((kd.rs.take i).map (clm b ρ))).lt ((Gr.rk b ρ r.1).abv (Gr.rk b ρ r.2))=true:=hlt
   rw [hlt']
   refine iteT ⟨_,rfl,nameI ?_⟩
   refine ⟨s26,x4,ms4,_,_,_,rfl,(M4.sb0 s5).sb0 s6,mem,?_⟩
   rw [step,if_pos hlt]
   exact hx4.sb s6
  ·have hlt':(Lad.maxL Lad.uno ((kd.rs.take i).map (clm b ρ))).lt ((Gr.rk b ρ r.1).abv (Gr.rk b ρ r.2))=false:=by
    have z:=hlt
    rw [Bool.not_eq_true] at z
    exact z
   rw [hlt']
   refine iteF ?_
   refine ⟨s26,f,ms4,_,_,_,rfl,(M4.sb0 s5).sb0 s6,mem,?_⟩
   rw [step,if_neg hlt]
   exact (hf.sb s34).sb s6
 ·obtain ⟨s2,f,ms2,o4,o5,o6,rfl,M2,hms,hf⟩:=h
  rw [zl,List.take_length,<- R.own k hk kd eg] at hf
  have hm2:k ∉ ms2:=fun z=>by
   rcases hms k z with h | h
   ·exact hm h
   ·omega
  obtain ⟨H3,hput,s3,M3⟩:=M2.put n8 hk hm2 hf
  refine ⟨_,rfl,_,rfl,_,rfl,e,H3,rfl,hput,?_⟩
  obtain ⟨u,hu,hul⟩:=M3.at_.val (n:=k) (by simp)
  refine ⟨_,rfl,_,rfl,e,u,rfl,hu,q u H3 _ ((s1.nil.trans s2).trans s3) M3 (fun m h=>?_) hul⟩
  rcases List.mem_append.mp h with z | z
  ·rcases hms m z with z | z
   ·exact .inl z
   ·exact .inr (by omega)
  ·rw [List.mem_singleton.mp z]; exact .inr (Nat.le_refl _)
end
theorem S_ofPs_snoc {b:Bk} {ρ:Str->Lad} (qs:List (Tr × Int)) (p:Tr × Int) (x:Lad):Lad.S (Gr.rk b ρ (Gr.ofPs (qs++[p]))) x=Lad.S (Gr.rk b ρ (Gr.ofPs qs)) x+Lad.S (Lad.tms (Gr.rkt b ρ p.1) p.2) x:=by
 rw [Gr.rk_ps,Gr.rk_ps,Gr.ps_ofPs,Gr.ps_ofPs,Gr.S_bths,Gr.S_bths,List.map_append,List.map_append,List.sum_append]
 simp
section
variable {P:Program} {w:World} {K:PySem.W.Frag} {mg:Str->Option Value} {base:Heap} {f:Addr} {fd:FuncData}
abbrev N__law_rank:List Str:=["_law_book","_law_known","_law_grove","_law_found","_law_kind","_law_inner","_law_many","_law_here","_law_held","_law_power","_law_so"]
theorem sc__law_rank:FnScope N__law_rank ["_law_book","_law_known","_law_grove"] (defScope s__law_rank):=⟨rfl,rfl,rfl,by decide +kernel,rfl,by decide +kernel,by decide +kernel⟩
theorem ok__law_rank {n:Nat} (B:BI mg) (G__law_own:Got P w K mg base "_law_own" ["_law_book","_law_known","_law_name"] (n+43) (spOwR K n)) (G__law_rank:Got P w K mg base "_law_rank" ["_law_book","_law_known","_law_grove"] (n+43) (spRkR K n)) (G__law_behind:Got P w K mg base "_law_behind" ["_law_one","_law_other"] (41) (spBehindL K)) (G__law_both:Got P w K mg base "_law_both" ["_law_one","_law_other"] (41) (spBothL K)) (F:Fun K "_law_rank" "_law_rank" s__law_rank f fd):FnOk P w K mg base CX0 (n+44) f fd ["_law_book","_law_known","_law_grove"] (spRkR K (n+1)):=by
 refine F.ok sc__law_rank (fun vs H Q E h=>?_) (fun cdv A outer s H vs Q E hr h=>?_)
 ·obtain ⟨d,e,u,b,ρ,ns,ms,lv,g,C,c,rfl,_⟩:=h
  rfl
 obtain ⟨d,e,u,b,ρ,ns,ms,lv,g,C,c,rfl,hd,de,R,M,⟨hg,gok,fit,gd,gp⟩,low,hn,q⟩:=h
 have hun2:=hunT hr
 refine ⟨_,pss_cons (ps_set (i:=3) sc__law_rank.nd rfl (.inl rfl) (pe_tup pa_nil))
  (pss_cons (ps_for PassesOwn.never rfl (pi_tup (pv 2)) (pg_tup rfl (pgs_cons (pg_tup rfl (pgs_cons (pg_name (i:=4) sc__law_rank.nd rfl (.inl rfl)) (pgs_cons (pg_name (i:=5) sc__law_rank.nd rfl (.inl rfl)) pgs_nil))) (pgs_cons (pg_name (i:=6) sc__law_rank.nd rfl (.inr rfl)) pgs_nil)))
   (pss_cons (ps_set (i:=7) sc__law_rank.nd rfl (.inl rfl) (pe_got G__law_own (hr.mono (by omega)) rfl (pa_cons (pv 0) (pa_cons (pv 1) (pa_cons (pv 4) pa_nil)))))
  (pss_cons (ps_set (i:=8) sc__law_rank.nd rfl (.inl rfl) (pe_got G__law_rank (hr.mono (by omega)) rfl (pa_cons (pv 0) (pa_cons (pv 1) (pa_cons (pv 5) pa_nil)))))
  (pss_cons (ps_if (PW.pt (pw_and (pt_cmpR (op_neD (by show A.units+3+64 < cLine; omega)) (pv 8) (pe_tup pa_nil) (nomark _)) (pw_and1 (pt_val (pe_ix ix_tup (pe_dget (by show A.units+3+1 < cLine; omega) (pv 0) (pv 4) (fun _ _=>rfl)) pe_int (fun _ _=>rfl)))))) (pss_one (ps_set (i:=7) sc__law_rank.nd rfl (.inl rfl) (pe_tup (pa_cons (pe_tup (pa_cons (pe_got G__law_behind (hr.mono (by omega)) rfl (pa_cons (pe_ix ix_tup (pe_ix ix_tup (pv 7) pe_int (fun _ _=>rfl)) pe_int (fun _ _=>rfl)) (pa_cons (pv 8) pa_nil))) (pa_cons pe_int pa_nil))) pa_nil)))) (pss_one (ps_set (i:=7) sc__law_rank.nd rfl (.inl rfl) (pe_got G__law_behind (hr.mono (by omega)) rfl (pa_cons (pv 7) (pa_cons (pv 8) pa_nil))))))
  (pss_one (ps_set (i:=3) sc__law_rank.nd rfl (.inl rfl) (pe_got G__law_both (hr.mono (by omega)) rfl (pa_cons (pv 3) (pa_cons (pe_callTy call_tuple_of rfl B.tuple boot_tuple (pa_cons (pe_lc (own:=[("_law_power",9),("_law_so",10)]) (g:=(gTup K 2 (gCons (gName 9) (gCons (gName 10) gNil)))) (tt:=tYes) (te:=(tTup (tCons (tVar 9) (tCons (tOp (rI CMulW fun i j=>.int (i*j)) (tVar 10) (tVar 6)) tNil)))) rfl sc__law_rank.nd (pi_tup (pv 7)) (blkOk_by (N:=N__law_rank) (sc:=defScope s__law_rank) (by decide +kernel)) (fun _ _ _ _ _=>(pg_tup rfl (pgs_cons (pg_name (i:=9) sc__law_rank.nd rfl (.inl rfl)) (pgs_cons (pg_name (i:=10) sc__law_rank.nd rfl (.inl rfl)) pgs_nil)))) (fun _ _ _ _ _=>pts_nil) (fun _ _ _ _ _=>(pe_tup (pa_cons (pv 9) (pa_cons (pe_op op_mulW (pv 10) (pv 6)) pa_nil))))) pa_nil)) pa_nil)))))))))
  (pss_one (ps_ret (pv 3)))),?_⟩
 have szl:=sizeLine_eq
 have n8:=R.len
 obtain ⟨a,xs,rfl,hs,hb⟩:=GA_bears hg
 have xl:=hb.length
 have gnm:=fit.named
 refine ⟨by show 0<=sizeLine; decide,fun z nz=>?_⟩
 have t1:=SB.new (ps:=[]) nz (.tup [])
 have hz1:LA K (upd H z (.tup [])) (.ref z) .nil:=LA_nil (SqT.of upd_same)
 generalize upd H z (.tup [])=H1 at t1 hz1
 have nE:∀ H2,SB [e] H H2->DkL K H2 d b:=fun H2 s2=>hd.sb s2 (by simpa using de) (by obtain ⟨kvs,h⟩:=M.isD; exact NoL.one h)
 have tk:∀ i,(Gr.ofPs (g.ps.take i)).Ok C/\Gr.Named ns (Gr.ofPs (g.ps.take i)):=fun i=>by
  obtain ⟨h1,h2⟩:=Gr.ok_iff.mp gok
  refine ⟨Gr.ok_ps.mpr ⟨fun p hp=>h1 p (List.mem_of_mem_take hp),h2.sublist (List.take_sublist _ _)⟩,Gr.named_iff.mpr fun p hp=>?_⟩
  rw [Gr.ps_ofPs] at hp
  exact Gr.named_iff.mp gnm p (List.mem_of_mem_take hp)
 have Rtk:∀ i,Lad.R (Gr.rk b ρ (Gr.ofPs (g.ps.take i))):=fun i=>Gr.G_R (b:=b) R.toGoods (tk i).1 (tk i).2
 have sm:=fit.sum
 have ptk:∀ i,(Gr.rk b ρ (Gr.ofPs (g.ps.take i))).parts<=900000:=fun i=>by
  rw [Gr.rk_ps,Gr.ps_ofPs]
  refine Nat.le_trans (Lad.bths_parts _) (Nat.le_trans ?_ sm)
  rw [Gr.rkT_ps,List.map_map,List.map_map]
  have e1:g.ps=g.ps.take i++g.ps.drop i:=(List.take_append_drop i g.ps).symm
  conv=>rhs; rw [e1,List.map_append,List.sum_append]
  omega
 have dtk:∀ i,(Gr.rk b ρ (Gr.ofPs (g.ps.take i))).deep<=30:=fun i=>by
  rw [Gr.rk_ps,Gr.ps_ofPs]
  refine Lad.bths_deep fun l hl=>?_
  obtain ⟨p,hp,rfl⟩:=List.mem_map.mp hl
  exact Lad.tms_deep _ (fit.at p (List.mem_of_mem_take hp)).1.2.2.2.2.2.1.deep
 refine nameI ?_
 refine ⟨_,rfl,a,rfl,⟨xs,t1.sqT hs⟩,?_⟩
 refine for_it (walk_tup (xs:=xs)) (fun i σ H2=>SB [e] H H2/\∃ (f:V) (ms2:List Str) (o4 o5 o6 o7 o8 o9 o10:Option V),σ=[some (.ref d),some (.ref e),some (.ref a),some f,o4,o5,o6,o7,o8,o9,o10]/\Memo K H2 e ρ ns ms2/\(∀ m ∈ ms2,m ∈ ms\/lv m < c)/\LA K H2 f (Gr.rk b ρ (Gr.ofPs (g.ps.take i))))
  ⟨t1.nil,_,ms,none,none,none,none,none,none,none,rfl,M.sb0 t1,fun m h=>.inl h,by rw [List.take_zero,show Gr.ofPs []=.nil from rfl,Gr.rk_nil]; exact hz1⟩ (fun i σ H2 hi h=>h.1.sqT hs) (fun i x σ H2' H2 hi h y=>?_) (fun σ H2 h=>?_)
 ·obtain ⟨s2,f,ms2,o4,o5,o6,o7,o8,o9,o10,rfl,M2,hms,hf⟩:=h
  obtain ⟨rfl,ey⟩:=y
  obtain ⟨p,ep,hpd⟩:=hb.get ey
  have pm:=List.mem_of_getElem? ep
  have pd:=g.mem_deep p pm
  have pp:=g.mem_parts p pm
  obtain ⟨n1,o1,m1,m2⟩:=Gr.ok_mem gok pm
  obtain ⟨⟨f1,f2,f3,f4,f5,f6,f7,f8⟩,f9⟩:=fit.at p pm
  obtain ⟨k1,k2⟩:=Gr.named_iff.mp gnm p pm
  obtain ⟨ad,td,ux,rfl,hs2,hs3,hga,htd⟩:=PA_parts hpd
  have lk:=low p (Gr.mem_within pm)
  refine ⟨ad,_,rfl,s2.sqT hs2,rfl,_,_,rfl,td,_,rfl,s2.sqT hs3,rfl,_,_,rfl,_,_,rfl,rfl,_,_,rfl,rfl,?_⟩
  refine ⟨_,rfl,_,rfl,_,rfl,d,e,p.1.1,b,ρ,ns,ms2,lv,rfl,nE _ s2,de,R,M2,k1,by omega,fun x1 H3 ms3 s3 M3 h3 hx1=>?_⟩
  refine nameI ?_
  have s23:=s2.trans s3
  refine ⟨_,rfl,_,rfl,_,rfl,d,e,ux,b,ρ,ns,ms3,lv,p.1.2,C,c,rfl,nE _ s23,de,R,M3,⟨GA.sb hga s23,o1,f9,by omega,by omega⟩,fun x hx=>low x (Gr.within_sub pm hx),by omega,fun x2 H4 ms4 s4 M4 h4 hx2=>?_⟩
  refine nameI ?_
  have s24:=s23.trans s4
  have mem:∀ m ∈ ms4,m ∈ ms\/lv m < c:=fun m hm4=>by
   rcases h4 m hm4 with z | z
   ·rcases h3 m z with z | z
    ·exact hms m z
    ·exact .inr (by omega)
   ·exact .inr z
  have hx1':=hx1.sb s4
  obtain ⟨kd,eg⟩:=R.get p.1.1 k1
  have hwd:b.wide p.1.1=kd.w:=Bk.wide_get eg
  refine seq_via (fun σ' G=>∃ x3:V,σ'=[some (.ref d),some (.ref e),some (.ref a),some f,some (.str p.1.1),some ux,some (.int p.2),some x3,some x2,o9,o10]/\SB [] H4 G/\LA K G x3 (Gr.rkt b ρ p.1)) (fun nx hnx=>?_) (fun σ' G h=>?_)
  ·refine ⟨_,rfl,by show 0<=sizeLine; decide,fun z5 nz5=>?_⟩
   have t5:=SB.new (ps:=[]) nz5 (.tup [])
   have hz5:LA K (upd H4 z5 (.tup [])) (.ref z5) .nil:=LA_nil (SqT.of upd_same)
   generalize upd H4 z5 (.tup [])=H5 at t5 hz5
   refine ⟨(Gr.rk b ρ p.1.2).enc,Lad.enc .nil,LA.sb hx2 t5,hz5,Lad.shaped_enc (Nat.le_trans f5.deep (by decide)),Lad.shaped_enc (by decide),_,rfl,?_⟩
   rw [Lad.eqv_enc]
   by_cases h0:Gr.rk b ρ p.1.2=.nil
   ·rw [decide_eq_true h0]
    refine iteF ?_
    refine ⟨_,rfl,_,rfl,x1,x2,ρ p.1.1,Gr.rk b ρ p.1.2,rfl,hx1'.sb t5,hx2.sb t5,Nat.le_trans f4.deep (by decide),Nat.le_trans f5.deep (by decide),Nat.le_trans f4.parts (by decide),Nat.le_trans f5.parts (by decide),fun x3 H6 s6 hx3=>?_⟩
    refine nameI ?_
    refine hnx _ _ ⟨x3,rfl,t5.trans s6,?_⟩
    have:Gr.rkt b ρ p.1=(ρ p.1.1).bhd (Gr.rk b ρ p.1.2):=by
     show lad _ _ _=_
     rw [show Gr.rk b ρ p.1.2=.nil from h0,Lad.bhd_nil]
     exact Lad.lad_nil f3
    rw [this]; exact hx3
   ·rw [decide_eq_false h0]
    refine iteT ?_
    obtain ⟨vv,hvv,t,l,zs,rfl,ht,hl,hbb⟩:=(nE _ (s24.trans t5.nil)).val eg
    refine ⟨_,rfl,_,rfl,d,_,rfl,hvv,t,_,_,_,rfl,rfl,ht,atI_nat (j:=0) rfl,_,rfl,?_⟩
    cases hk:kd.w with
    | false =>
     refine iteF ?_
     refine ⟨_,rfl,_,rfl,x1,x2,ρ p.1.1,Gr.rk b ρ p.1.2,rfl,hx1'.sb t5,hx2.sb t5,Nat.le_trans f4.deep (by decide),Nat.le_trans f5.deep (by decide),Nat.le_trans f4.parts (by decide),Nat.le_trans f5.parts (by decide),fun x3 H6 s6 hx3=>?_⟩
     refine nameI ?_
     refine hnx _ _ ⟨x3,rfl,t5.trans s6,?_⟩
     have:Gr.rkt b ρ p.1=(ρ p.1.1).bhd (Gr.rk b ρ p.1.2):=by
      show lad _ _ _=_
      unfold lad
      rw [hwd,hk]; rfl
     rw [this]; exact hx3
    | true =>
     refine iteT ?_
     have fd:=f4.deep
     have fp:=f4.parts
     have fl:Gr.rkt b ρ p.1=Lad.spd (ρ p.1.1) (Gr.rk b ρ p.1.2):=by
      show lad _ _ _=_
      unfold lad
      rw [hwd,hk]; rfl
     cases ho:ρ p.1.1 with
     | nil=>exact absurd ho f3
     | cons e0 m0 r0 =>
     rw [ho] at hx1' fd fp fl
     rw [Lad.spd_cons h0] at fl
     obtain ⟨ha,hxs,rfl,hsx,hbx⟩:=LA_bears (hx1'.sb t5)
     rw [show (Lad.cons e0 m0 r0).ps=(e0,m0)::r0.ps from rfl] at hbx
     cases hbx with
     | @cons y0 yr _ _ hh0 hbr =>
     obtain ⟨cc,ue,rfl,hsc,hle⟩:=LA_pair hh0
     have ed:e0.deep < (Lad.cons e0 m0 r0).deep:=Lad.mem_deep (.cons e0 m0 r0) (e0,m0) (mcs ..)
     have ept:e0.parts<=(Lad.cons e0 m0 r0).parts:=by show e0.parts<=1+e0.parts+r0.parts; omega
     refine ⟨_,rfl,ha,_,_,.ref cc,rfl,rfl,hsx,atI_nat (j:=0) rfl,cc,_,_,ue,rfl,rfl,hsc,atI_nat (j:=0) rfl,_,rfl,ue,x2,e0,Gr.rk b ρ p.1.2,rfl,hle,hx2.sb t5,by omega,Nat.le_trans f5.deep (by decide),by omega,Nat.le_trans f5.parts (by decide),fun x3 H6 s6 hx3=>?_⟩
     refine ⟨by show 2<=sizeLine; decide,fun t8 nt8=>?_⟩
     have s8:=SB.new (ps:=[]) nt8 (.tup [x3,.int 1])
     have ht8:upd H6 t8 (.tup [x3,.int 1]) t8=some (.tup [x3,.int 1]):=upd_same
     generalize upd H6 t8 (.tup [x3,.int 1])=H8 at s8 ht8
     refine ⟨by show 1<=sizeLine; decide,fun t9 nt9=>?_⟩
     have s9:=SB.new (ps:=[]) nt9 (.tup [.ref t8])
     refine nameI ?_
     refine hnx _ _ ⟨.ref t9,rfl,((t5.trans s6).trans s8).trans s9,?_⟩
     rw [fl]
     exact LA_one (SqT.of upd_same) (s9.sqT (SqT.of ht8)) (LA.sb hx3 (s8.trans s9))
  ·obtain ⟨x3,rfl,s5,hx3⟩:=h
   have s25:=s24.trans s5.nil
   obtain ⟨ha,hxs,rfl,hsx,hbx⟩:=LA_bears hx3
   have hl':=hbx.length
   have lp:=(Gr.rkt b ρ p.1).len_parts
   rw [<- Lad.ps_length] at lp
   have fp:=f6.parts
   refine ⟨_,rfl,_,rfl,ha,rfl,⟨hxs,hsx⟩,fun D nD=>?_⟩
   refine lc_seq (walk_tup (xs:=hxs)) nD (by omega) (fun j ws H6=>Bears K H6 Lad.pEnc ws (((Gr.rkt b ρ p.1).ps.take j).map fun q:Lad × Int=>(q.1,q.2*p.2))) .nil (fun H6 s6=>s6.sqT hsx) (fun _ _ _ _ s h=>h.sb s Lad.pEnc_noList) (fun Pv j y Hq H6 ws hj s6 yy hR hu6 fin skip=>?_) (fun ws H6 s6 hD6 hR hu6=>?_)
   ·obtain ⟨rfl,ey2⟩:=yy
    obtain ⟨r,er,hrd⟩:=hbx.get ey2
    have rm:=List.mem_of_getElem? er
    obtain ⟨ar,ur,rfl,hsr,hlr⟩:=LA_pair hrd
    obtain ⟨num0,num1⟩:=f6.num r rm
    have cm:CMulW r.2 p.2:=by
     have e1:=log_lt (x:=r.2) (a:=400000) (b:=400000) (Gr.natAbs_lt num0 num1) (Nat.le_refl _) (by decide)
     have e2:=log_lt (x:=p.2) (a:=400000) (b:=400000) (Gr.natAbs_lt f7 f8) (Nat.le_refl _) (by decide)
     unfold CMulW
     omega
    refine ⟨ar,_,rfl,s6.sqT hsr,rfl,_,_,rfl,_,_,rfl,rfl,rfl,?_⟩
    refine ⟨_,rfl,_,rfl,_,rfl,_,_,rfl,rfl,cm,by show 2<=sizeLine; decide,fun T nT=>?_⟩
    have t7:=SB.new (ps:=[]) nT (.tup [ur,.int (r.2*p.2)])
    refine fin _ _ t7 ?_
    rw [List.take_add_one,er,List.map_append]
    exact (hR.sb t7 Lad.pEnc_noList).append (.cons (Dp.tup (SqT.of upd_same) (.cons ((LA.sb hlr s6).sb t7) (.cons (.int _) .nil))) .nil)
   ·rw [hl',List.take_length] at hR
    refine ⟨D,ws,rfl,.inl ⟨SqL.of hD6,fun kt hkt=>?_⟩⟩
    have t7:=SB.new (ps:=[]) hkt (.tup ws)
    have hkt7:LA K (upd H6 kt (.tup ws)) (.ref kt) (Lad.tms (Gr.rkt b ρ p.1) p.2):=by
     have z:=Bears_la (SqT.of upd_same) (hR.sb t7 Lad.pEnc_noList)
     have:Lad.tms (Gr.rkt b ρ p.1) p.2=Lad.ofPs ((Gr.rkt b ρ p.1).ps.map fun q:Lad × Int=>(q.1,q.2*p.2)):=by
      unfold Lad.tms
      rw [if_neg (by omega)]
     rw [this]; exact z
    generalize upd H6 kt (.tup ws)=H7 at t7 hkt7
    have s57:=s6.trans t7
    have pt:=Lad.tms_parts (Gr.rkt b ρ p.1) p.2
    have dt:=Lad.tms_deep (n:=30) p.2 f6.deep
    have pi:=ptk i
    have di:=dtk i
    refine ⟨f,.ref kt,_,_,rfl,((hf.sb (s3.trans s4)).sb s5).sb s57,hkt7,by omega,by omega,by omega,by omega,fun x4 H8 s8 hx4=>?_⟩
    refine nameI ?_
    refine ⟨(s25.trans s57.nil).trans s8.nil,x4,ms4,_,_,_,_,_,_,_,rfl,((M4.sb0 s5).sb0 s57).sb0 s8,mem,?_⟩
    have Rt:Lad.R (Gr.rkt b ρ p.1):=Gr.rkt_R R.toGoods k1 o1 k2
    rw [Lad.mrg_bth (Rtk i) (Rt.tms (by omega))] at hx4
    have e1:Gr.rk b ρ (Gr.ofPs (g.ps.take (i+1)))=(Gr.rk b ρ (Gr.ofPs (g.ps.take i))).bth (Lad.tms (Gr.rkt b ρ p.1) p.2):=by
     refine Lad.R.ext (Rtk (i+1)) ((Rtk i).bth (Rt.tms (by omega))) fun x=>?_
     rw [Lad.S_bth,List.take_add_one,ep]
     exact S_ofPs_snoc _ _ x
    rw [e1]; exact hx4
 ·obtain ⟨s2,f,ms2,o4,o5,o6,o7,o8,o9,o10,rfl,M2,hms,hf⟩:=h
  rw [xl,List.take_length,Gr.ofPs_ps] at hf
  exact ⟨_,rfl,q f H2 ms2 s2 M2 hms hf⟩
abbrev N_ltidy:List Str:=["_law_pairs","_law_found","_law_tree","_law_many"]
theorem sc_law_grove_of:FnScope N_ltidy ["_law_pairs"] (defScope s__law_grove_of):=⟨rfl,rfl,rfl,by decide +kernel,rfl,by decide +kernel,by decide +kernel⟩
theorem ok_law_grove_of (B:BI mg) (F:Fun K "_law_grove_of" "_law_grove_of" s__law_grove_of f fd):FnOk P w K mg base CX0 1 f fd ["_law_pairs"] (spTidyG K):=by
 refine F.ok sc_law_grove_of (fun vs H Q E h=>?_) (fun cdv A outer s H vs Q E hr h=>?_)
 ·obtain ⟨a,xs,bs,rfl,_⟩:=h
  rfl
 obtain ⟨a,xs,as,rfl,hs,hba,hl,⟨C,ho⟩,q⟩:=h
 have hun2:=hunT hr
 refine ⟨_,pss_cons (ps_set (i:=1) sc_law_grove_of.nd rfl (.inl rfl) (pe_lst pa_nil))
  (pss_cons (ps_for PassesOwn.never rfl (pi_list (pe_callB (cr_sortedB Gr.pEnc (by show A.units+3+110 < cLine; omega)) rfl B.sorted (by decide +kernel) (pa_cons (pv 0) pa_nil))) (pg_tup rfl (pgs_cons (pg_name (i:=2) sc_law_grove_of.nd rfl (.inl rfl)) (pgs_cons (pg_name (i:=3) sc_law_grove_of.nd rfl (.inl rfl)) pgs_nil)))
   (pss_cons (ps_if (PW.pt (pw_and (pt_cmpR (op_neD (by show A.units+3+64 < cLine; omega)) (pv 1) (pe_lst pa_nil) (nomark _)) (pw_and1 (pt_cmpR (op_eqD (by show A.units+3+64 < cLine; omega)) (pe_ix ix_tup (pe_ix ix_list (pv 1) (pe_un un_neg pe_int) (fun _ _=>rfl)) pe_int (fun _ _=>rfl)) (pv 2) (nomark _)))))
    (pss_one (ps_set (i:=3) sc_law_grove_of.nd rfl (.inl rfl) (pe_op op_add (pv 3) (pe_ix ix_tup (pe_bm0 PySem.F.plainAttrs_list PySem.F.slot_list_pop PySem.F.type_list_pop mt_pop (pv 1)) pe_int (fun _ _=>rfl))))) pss_nil)
   (pss_one (ps_expr (pe_bm PySem.F.plainAttrs_list PySem.F.slot_list_append PySem.F.type_list_append mt_append (pv 1) (pa_cons (pe_tup (pa_cons (pv 2) (pa_cons (pv 3) pa_nil))) pa_nil))))))
  (pss_one (ps_ret (pe_callTy call_tuple_of rfl B.tuple boot_tuple (pa_cons (pv 1) pa_nil))))),?_⟩
 refine ⟨(by show 0<=sizeLine; decide),fun D hD=>?_⟩
 have t0:=SB.new (ps:=[]) hD (.lst [])
 have hD0:(upd H D (.lst [])) D=some (.lst []):=upd_same
 generalize hH0:upd H D (.lst [])=H0 at t0 hD0
 have hs0:SqL K H0 a xs\/SqT K H0 a xs:=hs.imp (fun h=>t0.sqL nmn h) fun h=>t0.sqT h
 refine ⟨_,rfl,a,_,as,rfl,hs0,hba.sb t0 Gr.noList_pEnc,Gr.pEnc_all _,Gr.pEnc_sortable _,by omega,fun p hp=>?_,fun p1 zs hp1 hz=>?_⟩
 ·have:=Gr.pEnc_depth p
  have:=(ho p hp).2.2
  omega
 have s1:=SB.new (ps:=[]) hp1 (.lst zs)
 have hz3:Bears K (upd H0 p1 (.lst zs)) Gr.pEnc zs (srtE Gr.pEnc as):=hz.sb s1 Gr.noList_pEnc
 have hD3:=s1.keep _ _ hD0 nmn
 have hl3:SqL K (upd H0 p1 (.lst zs)) p1 zs:=SqL.of upd_same
 have p1D:p1 ≠ D:=fun z=>by subst z; rw [hD0] at hp1; cases hp1
 generalize hH3:upd H0 p1 (.lst zs)=H3 at s1 hz3 hD3 hl3
 clear hz
 generalize hbs:srtE Gr.pEnc as=bs at hz3
 have bok:∀ p ∈ bs,NameOk p.1.1/\p.1.2.Ok C/\p.1.2.deep<=18:=by
  intro p hp
  rw [<- hbs] at hp
  exact ho p ((srtE_perm as).mem_iff.mp hp)
 have blen:bs.length<=1000:=by rw [<- hbs,(srtE_perm as).length_eq]; exact hl
 have zl:=hz3.length
 refine ⟨p1,rfl,⟨zs,hl3⟩,?_⟩
 refine for_list (K:=K) (a:=p1) (xs:=zs) (fun i σ H2=>SB [D] H3 H2/\∃ acc o2 o3,σ=[some (.ref a),some (.ref D),o2,o3]/\H2 D=some (.lst acc)/\Bears K H2 Gr.pEnc acc (jn (bs.take i))) ⟨SB.refl,[],none,none,rfl,hD3,.nil⟩ (fun i σ H2 hi h2=>h2.1.sqL (by simpa using p1D) hl3) (fun i x σ H2 hx h2=>?_) (fun σ H2 h2=>?_)
 ·obtain ⟨s2,acc,o2,o3,rfl,hD2,hb2⟩:=h2
  obtain ⟨p,ep,hpd⟩:=hz3.get hx
  have pm:=List.mem_of_getElem? ep
  obtain ⟨ad,tx,ux,rfl,hsx,_,_,hdx⟩:=PA_parts hpd
  have al:=hb2.length
  have jl:=jn_length (bs.take i)
  rw [List.length_take] at jl
  rw [jn_take bs i p ep]
  have hdx2:Dp K H2 (.ref tx) (Gr.tEnc p.1):=Dp_sb s2 _ _ (Gr.noList_tEnc _) hdx
  refine ⟨ad,_,rfl,s2.sqT hsx,rfl,_,_,rfl,_,_,rfl,rfl,?_⟩
  refine ⟨_,rfl,(by show 0<=sizeLine; decide),fun e0 he0=>?_⟩
  have t3:=SB.new (ps:=[D]) he0 (.lst [])
  have hD3:(upd H2 e0 (.lst [])) D=some (.lst acc):=by rw [upd_ne (ne_of_none hD2 he0)]; exact hD2
  have jd:∀ p ∈ jn (bs.take i),NameOk p.1.1/\p.1.2.Ok C/\p.1.2.deep<=18:=by
   intro p hp
   obtain ⟨q2,hq2,e2⟩:=jn_keys _ p hp
   rw [<- e2]; exact bok q2 (List.mem_of_mem_take hq2)
  have hb3:=hb2.sb t3 Gr.noList_pEnc
  have hdx3:=Dp_sb t3 _ _ (Gr.noList_tEnc _) hdx2
  have he0':(upd H2 e0 (.lst [])) e0=some (.lst []):=upd_same
  generalize hH4:upd H2 e0 (.lst [])=H4 at t3 hD3 hb3 hdx3 he0'
  refine ⟨.list ((jn (bs.take i)).map Gr.pEnc),.list [],Dp.lst (SqL.of hD3) hb3.dp,Dp.lst (SqL.of he0') .nil,Gr.shaped_rows ⟨C,jd⟩,by decide +kernel,_,rfl,?_⟩
  have s24:=s2.trans t3
  have app:∀ (us:List V) (js:List (Tr × Int)) (m:Int) (H5:Hp),SB [D] H4 H5->H5 D=some (.lst us)->Bears K H5 Gr.pEnc us js->us.length<=1000->jstep (jn (bs.take i)) p=js++[(p.1,m)] ->
    tDrop (tBM K "list" rAppend (tVar 1) (tCons (tTup (tCons (tVar 2) (tCons (tVar 3) tNil))) tNil)) { nx:=fun σ H2=>SB [D] H3 H2/\∃ acc o2 o3,σ=[some (.ref a),some (.ref D),o2,o3]/\H2 D=some (.lst acc)/\Bears K H2 Gr.pEnc acc (jstep (jn (bs.take i)) p),rt:=Q } [some (.ref a),some (.ref D),some (.ref tx),some (.int m)] H5:=by
   intro us js m H5 s5 hD5 hb5 hul e
   rw [e]
   refine ⟨_,rfl,.inl ⟨rfl,_,SqL.of hD5⟩,_,rfl,_,rfl,(by show 2<=sizeLine; decide),fun t ht=>?_⟩
   have t6:=SB.new (ps:=[D]) ht (.tup [.ref tx,.int m])
   have hD6:(upd H5 t (.tup [.ref tx,.int m])) D=some (.lst us):=by rw [upd_ne (ne_of_none hD5 ht)]; exact hD5
   refine ⟨D,us,_,rfl,rfl,hD6,small1000 (Nat.le_trans hul (by decide)),?_⟩
   have t7:=SB.set (ps:=[D]) hD6 (by simp) (.lst (us++[.ref t]))
   exact ⟨((s24.trans s5).trans t6).trans t7,_,_,_,rfl,upd_same,Bears.append ((hb5.sb t6 Gr.noList_pEnc).sb t7 Gr.noList_pEnc) (.cons (Dp.tup (t7.sqT (SqT.of upd_same)) (.cons (Dp_sb ((s5.trans t6).trans t7) _ _ (Gr.noList_tEnc _) hdx3) (.cons (.int _) .nil))) .nil)⟩
  rcases List.eq_nil_or_concat (jn (bs.take i)) with he | ⟨js,z,he⟩
  ·rw [he] at hb3 app
   rw [he]
   cases hb3
   refine iteF (iteF ?_)
   exact app [] [] p.2 H4 SB.refl hD3 .nil (by simp) rfl
  ·rw [List.concat_eq_append] at he
   rw [he] at hb3 app jd
   rw [he]
   obtain ⟨us,u,rfl,hus,hu⟩:=hb3.snoc
   obtain ⟨az,tz,uz,rfl,hsz,_,_,hdz⟩:=PA_parts hu
   obtain ⟨zn,zo,zd⟩:=jd z (by simp)
   obtain ⟨pn,po,pd⟩:=bok p pm
   have e0:(!PyData.eqv (.list ((js++[z]).map Gr.pEnc)) (.list []))=true:=by
    cases js <;> simp [PyData.eqv,PyData.eqvAll]
   rw [e0]
   refine iteT ?_
   refine ⟨_,rfl,1,rfl,D,_,_,_,rfl,rfl,SqL.of hD3,at_last,az,_,_,_,rfl,rfl,hsz,atI_nat (j:=0) rfl,_,rfl,Gr.tEnc z.1,Gr.tEnc p.1,hdz,hdx3,Gr.shaped_tEnc zn zo (by omega),Gr.shaped_tEnc pn po (by omega),_,rfl,?_⟩
   rw [Orderly.eq (enc:=Gr.tEnc)]
   have ul:us.length<=1000:=by rw [List.length_append] at al; omega
   by_cases hz:z.1=p.1
   ·rw [show decide (z.1=p.1)=true by simp [hz]]
    refine iteT ?_
    refine ⟨_,rfl,_,rfl,.inl ⟨rfl,_,SqL.of hD3⟩,D,_,_,rfl,rfl,hD3,(by simp:(us++[V.ref az])[(us++[V.ref az]).length-1]?=some (V.ref az)),?_⟩
    have ed:(us++[V.ref az]).dropLast=us:=by simp
    rw [ed]
    have t6:=SB.set (ps:=[D]) hD3 (by simp) (.lst us)
    refine ⟨az,_,_,_,rfl,rfl,t6.sqT hsz,atI_nat (j:=1) rfl,_,_,rfl,rfl,?_⟩
    refine app us js (p.2+z.2) _ t6 upd_same (hus.sb t6 Gr.noList_pEnc) ul ?_
    rw [jstep_snoc,if_pos hz,Int.add_comm]
   ·rw [show decide (z.1=p.1)=false by simp [hz]]
    refine iteF ?_
    refine app _ (js++[z]) p.2 H4 SB.refl hD3 hb3 (by rw [List.length_append,List.length_singleton] at al ⊢; omega) ?_
    rw [jstep_snoc,if_neg hz]
 ·obtain ⟨s2,acc,o2,o3,rfl,hD2,hb2⟩:=h2
  rw [zl,List.take_length] at hb2
  refine ⟨_,rfl,D,acc,rfl,.inl ⟨SqL.of hD2,fun t ht=>?_⟩⟩
  have t3:=SB.new (ps:=[]) ht (.tup acc)
  refine q _ _ ((((t0.trans s1).nil.trans s2).drop hD).trans t3) ?_
  have e:Gr.tidy as=Gr.ofPs (jn bs):=by rw [<- hbs]; rfl
  rw [e]
  exact Bears_ga (SqT.of upd_same) (hb2.sb t3 Gr.noList_pEnc)
end
theorem join_r {K:PySem.W.Frag} {H:Hp} {p c:Addr} {Q:VK} {σ:L2.St} {jP jL jV k:Nat} {wi:TI} (hk:k<=1000) (h1:∀ x,((wipe σ [jV]).set jV (some x))[jP]?=some (some (.ref p))) (h2:∀ x,((wipe σ [jV]).set jV (some x))[jL]?=some (some (.str abc)))
  (h3:∀ x,wipe ((wipe σ [jV]).set jV (some x)) [jV]=wipe σ [jV]) (hwi:∀ R:It->Hp->Prop,R (Itr 0 k) H->wi σ H R) (hp:PotC H p c) (q:∀ z H',SB [p] H H'->PotC H' p c->Ltr z k->Q (.str z) H') :
  tM1 (rJoinS K) (tC (.str (Str.ofString ""))) (tLc wi (gName jV) tYes (tOp rIxS (tVar jL) (tCall spTakeR [] E0 (tCons (tVar jP) (tCons (tC (.int 26)) tNil)))) [jV]) σ H Q:=by
 refine ⟨⟨_,rfl⟩,hwi _ fun D hD=>?_⟩
 have szl:=sizeLine_eq
 refine lc_seqP walk_range [p] hD hp.some (by omega) (fun i us H2=>PotC H2 p c/\∃ cs:List Nat,us=cs.map (fun c=>V.str ⟨#[c]⟩)/\cs.length=i/\∀ c ∈ cs,97<=c/\c<=122) ⟨hp,[],rfl,rfl,by simp⟩ (fun _ _=>trivial) (fun i us H2 H3 e ⟨a,b⟩=>⟨a.keep e (by simpa using hp.ne hD) (by simpa using hp.nc hD),b⟩) (fun Pv i x H2 H' us hi s2 y hR hl fin _=>?_) (fun us H2 s2 hD2 hR hl=>?_)
 ·obtain ⟨rfl,rfl⟩:=y
  obtain ⟨hp2,cs,rfl,cl,co⟩:=hR
  refine ⟨h3 _,_,h2 _,?_⟩
  refine ⟨_,h1 _,p,c,26,rfl,hp2,by decide,by decide,fun r H3 r0 r26 s3 hp3=>?_⟩
  obtain ⟨n,rfl⟩:∃ n:Nat,r=(n:Int):=⟨r.toNat,by omega⟩
  obtain ⟨c,hc,hco⟩:=abc_at n (by omega)
  refine ⟨_,_,c,rfl,rfl,abc_len,atI_natN hc,fin _ _ s3 ⟨hp3,cs++[c],by rw [List.map_append]; rfl,by simp [cl],fun d hd=>?_⟩⟩
  rcases List.mem_append.mp hd with hd | hd
  ·exact co d hd
  ·rw [List.mem_singleton.mp hd]; exact hco
 ·obtain ⟨hp2,cs,rfl,cl,co⟩:=hR
  have e1:(cs.map fun c=>V.str ⟨#[c]⟩)=(cs.map fun c=>(⟨#[c]⟩:Str)).map V.str:=by rw [List.map_map]; rfl
  rw [e1] at hD2
  refine ⟨_,D,cs.map fun c=>⟨#[c]⟩,rfl,rfl,.inl (SqL.of hD2),?_,q _ _ s2 hp2 (by have:=join_ltrs cs co; rw [cl] at this; exact this)⟩
  have:∀ cs:List Nat,((cs.map fun c=>(⟨#[c]⟩:Str)).map (·.length)).sum=cs.length:=by
   intro cs
   induction cs with
   | nil=>rfl
   | cons c r ih=>rw [List.map_cons,List.map_cons,List.sum_cons,ih]; show 1+r.length=r.length+1; omega
  rw [this,List.length_map,cl]
  have:(Str.ofString "").length=0:=by decide +kernel
  rw [this]; omega
theorem Ltr.dropE {z:Str} {n:Nat} (h:Ltr z n) (a:Nat):Ltr (cutS z (some (a:Int)) none) (n-min a n):=by
 have hl:=h.len
 have e:(cutS z (some (a:Int)) none).cps.toList=z.cps.toList.drop (min a n):=by
  unfold cutS
  rw [HT.sIx_nat,HT.sIx_none,hl]
  have:=h.1
  rw [List.take_of_length_le (by rw [List.length_drop]; omega)]
 unfold Ltr
 rw [e,List.length_drop,h.1]
 exact ⟨rfl,fun c hc=>h.2 c (List.mem_of_mem_drop hc)⟩
section
variable {P:Program} {w:World} {K:PySem.W.Frag} {mg:Str->Option Value} {base:Heap} {f:Addr} {fd:FuncData}
abbrev N__law_names:List Str:=["_law_pot_here","_law_many","_law_letters","_law_size","_law_stem","_law_at","_law_first","_law_step","_law_k"]
theorem sc__law_names:FnScope N__law_names ["_law_pot_here","_law_many"] (defScope s__law_names):=⟨rfl,rfl,rfl,by decide +kernel,rfl,by decide +kernel,by decide +kernel⟩
theorem ok__law_names (B:BI mg) (G__law_take:Got P w K mg base "_law_take" ["_law_pot_here","_law_many"] (1) (spTakeR)) (F:Fun K "_law_names" "_law_names" s__law_names f fd):FnOk P w K mg base CX0 (2) f fd ["_law_pot_here","_law_many"] (spNamesR K):=by
 refine F.ok sc__law_names (fun vs H Q E h=>?_) (fun cdv A outer s H vs Q E hr h=>?_)
 ·obtain ⟨p,cl,m,rfl,_⟩:=h
  rfl
 obtain ⟨p,cl,m,rfl,hp,m1,m8,q⟩:=h
 have hun2:=hunT hr
 refine ⟨_,pss_cons (ps_set (i:=2) sc__law_names.nd rfl (.inr rfl) pe_str)
  (pss_cons (ps_set (i:=3) sc__law_names.nd rfl (.inl rfl) (pe_op op_add pe_int (pe_got G__law_take (hr.mono (by omega)) rfl (pa_cons (pv 0) (pa_cons pe_int pa_nil)))))
  (pss_cons (ps_set (i:=4) sc__law_names.nd rfl (.inr rfl) (pe_join pe_str (pe_lc (own:=[("_law_k",8)]) (g:=(gName 8)) (tt:=tYes) (te:=(tOp rIxS (tVar 2) (tCall (spTakeR) [] E0 (tCons (tVar 0) (tCons (tC (.int 26)) tNil))))) rfl sc__law_names.nd (pi_range1 rfl B.range (pa_cons (pv 3) pa_nil)) (blkOk_by (N:=N__law_names) (sc:=defScope s__law_names) (by decide +kernel)) (fun _ _ _ _ _=>(pg_name (i:=8) sc__law_names.nd rfl (.inl rfl))) (fun _ _ _ _ _=>pts_nil) (fun _ _ _ _ _=>(pe_ix ix_str (pv 2) (pe_got G__law_take (hr.mono (by omega)) rfl (pa_cons (pv 0) (pa_cons pe_int pa_nil))) (fun _ _=>rfl))))))
  (pss_cons (ps_if (pt_cmpR op_eq (pe_got G__law_take (hr.mono (by omega)) rfl (pa_cons (pv 0) (pa_cons pe_int pa_nil))) pe_int (nomark _)) (pss_one (ps_ret (pe_lc (own:=[("_law_k",8)]) (g:=(gName 8)) (tt:=tYes) (te:=(tOp rMulS (tOp rIxS (tVar 4) (tC (.int 0))) (tOp (rI0 fun i j=>.int (i-j)) (tVar 1) (tVar 8)))) rfl sc__law_names.nd (pi_range1 rfl B.range (pa_cons (pv 1) pa_nil)) (blkOk_by (N:=N__law_names) (sc:=defScope s__law_names) (by decide +kernel)) (fun _ _ _ _ _=>(pg_name (i:=8) sc__law_names.nd rfl (.inl rfl))) (fun _ _ _ _ _=>pts_nil) (fun _ _ _ _ _=>(pe_op op_mulS (pe_ix ix_str (pv 4) pe_int (fun _ _=>rfl)) (pe_op op_sub (pv 1) (pv 8))))))) pss_nil)
  (pss_cons (ps_set (i:=5) sc__law_names.nd rfl (.inr rfl) (pe_got G__law_take (hr.mono (by omega)) rfl (pa_cons (pv 0) (pa_cons (pv 3) pa_nil))))
  (pss_cons (ps_set (i:=6) sc__law_names.nd rfl (.inr rfl) (pe_got G__law_take (hr.mono (by omega)) rfl (pa_cons (pv 0) (pa_cons pe_int pa_nil))))
  (pss_cons (ps_set (i:=7) sc__law_names.nd rfl (.inr rfl) (pe_op op_add pe_int (pe_got G__law_take (hr.mono (by omega)) rfl (pa_cons (pv 0) (pa_cons pe_int pa_nil)))))
  (pss_one (ps_ret (pe_lc (own:=[("_law_k",8)]) (g:=(gName 8)) (tt:=tYes) (te:=(tOp (fun x y H Q=>∃ i j,x=.str i/\y=.str j/\i.length+j.length<=sizeLine/\Q (.str (i++j)) H) (tOp (fun x y H Q=>∃ i j,x=.str i/\y=.str j/\i.length+j.length<=sizeLine/\Q (.str (i++j)) H) (tSl rSlS (tVar 4) tNoPart (tPart (tVar 5))) (tOp rIxS (tVar 2) (tOp (rI (fun _ j=>0 < j) fun i j=>.int (i % j)) (tOp (rI0 fun i j=>.int (i+j)) (tVar 6) (tOp (rI CMul fun i j=>.int (i*j)) (tVar 8) (tVar 7))) (tC (.int 26))))) (tSl rSlS (tVar 4) (tPart (tOp (rI0 fun i j=>.int (i+j)) (tVar 5) (tC (.int 1)))) tNoPart))) rfl sc__law_names.nd (pi_range1 rfl B.range (pa_cons (pv 1) pa_nil)) (blkOk_by (N:=N__law_names) (sc:=defScope s__law_names) (by decide +kernel)) (fun _ _ _ _ _=>(pg_name (i:=8) sc__law_names.nd rfl (.inl rfl))) (fun _ _ _ _ _=>pts_nil) (fun _ _ _ _ _=>(pe_op op_add_str (pe_op op_add_str (pe_slice sl_str (pv 4) po_none (po_some (pv 5))) (pe_ix ix_str (pv 2) (pe_op op_mod (pe_op op_add (pv 6) (pe_op op_mul (pv 8) (pv 7))) pe_int) (fun _ _=>rfl))) (pe_slice sl_str (pv 4) (po_some (pe_op op_add (pv 5) pe_int)) po_none)))))))))))),?_⟩
 have szl:=sizeLine_eq
 refine nameI (seqI (asgI ?_))
 refine ⟨_,rfl,p,cl,8,rfl,hp,by decide,by decide,fun r1 H1 r10 r18 s1 hp1=>?_⟩
 obtain ⟨sz0,rfl⟩:∃ u:Nat,r1=(u:Int):=⟨r1.toNat,by omega⟩
 refine ⟨_,_,rfl,rfl,?_⟩
 refine nameI (seqI (asgI ?_))
 refine join_r (k:=1+sz0) (jP:=0) (jL:=2) (jV:=8) (c:=cl) (σ:=[some (.ref p),some (.int (m:Int)),some (.str abc),some (.int ((1:Int)+(sz0:Int))),none,none,none,none,none]) (by omega) (fun _=>rfl) (fun _=>rfl) (fun _=>rfl) (fun R hR=>⟨_,rfl,(1:Int)+(sz0:Int),rfl,by omega,by omega,by rw [show ((1:Int)+(sz0:Int)).toNat=1+sz0 by omega]; exact hR⟩) hp1 (fun st H2 s2 hp2 hst=>?_)
 have sl:=hst.len
 refine nameI (ifI ?_)
 refine ⟨_,rfl,p,cl,3,rfl,hp2,by decide,by decide,fun r3 H3 r30 r33 s3 hp3=>?_⟩
 refine ⟨rfl,_,rfl,?_⟩
 have s03:SB [p] H H3:=(s1.trans s2).trans s3
 refine ite2 (fun _=>?_) (fun _=>?_)
 ·obtain ⟨c0,ec0⟩:∃ c0,st.cps.toList[0]?=some c0:=⟨_,List.getElem?_eq_getElem (by rw [hst.1]; omega)⟩
  have hc0:=hst.2 c0 (List.mem_of_getElem? ec0)
  let wA:Nat->Str:=fun i=>Txt.mul ⟨#[c0]⟩ ((m-i:Nat):Int)
  have lA:∀ i,Ltr (wA i) (m-i):=fun i=>Ltr.mul _ hc0
  refine ⟨_,rfl,_,rfl,by omega,by omega,fun D hD=>?_⟩
  rw [Int.toNat_natCast]
  refine lc_seq walk_range hD (by omega) (fun i us _=>us=((List.range i).map wA).map V.str) rfl (fun _ _=>trivial) (fun _ _ _ _ _ h=>h) (fun Pv i x Hx H' us hi sx y hR hl fin _=>?_) (fun us Hx sx hDx hR hl=>?_)
  ·obtain ⟨rfl,rfl⟩:=y
   have e1:(m:Int)-(0+(i:Int))=((m-i:Nat):Int):=by omega
   refine ⟨rfl,?_⟩
   refine ⟨_,rfl,st,0,c0,rfl,rfl,by omega,atI_natN (j:=0) ec0,_,rfl,_,rfl,_,_,rfl,rfl,⟨#[c0]⟩,m-i,rfl,congrArg V.int e1,by omega,by show 1<=1000; decide,?_⟩
   refine fin _ _ SB.refl ?_
   rw [hR,List.range_succ,List.map_append,List.map_append]
   rfl
  ·subst hR
   refine q D _ Hx (s03.trans sx.nil) (hp3.sb sx) (s03.dom _ hD) hDx (by simp) (nodup_range fun i j hi hj hn e=>?_) (fun k hk=>?_)
   ·have e1:=(lA i).1
    rw [e,(lA j).1] at e1
    omega
   ·obtain ⟨i,hi,rfl⟩:=List.mem_map.mp hk
    have hi:=List.mem_range.mp hi
    exact (lA i).name (by omega) (by omega)
 ·refine ⟨_,rfl,_,rfl,p,cl,_,rfl,hp3,by omega,by omega,fun r4 H4 r40 r4m s4 hp4=>?_⟩
  obtain ⟨at_,rfl⟩:∃ u:Nat,r4=(u:Int):=⟨r4.toNat,by omega⟩
  refine nameI ?_
  refine ⟨_,rfl,p,cl,26,rfl,hp4,by decide,by decide,fun r5 H5 r50 r5m s5 hp5=>?_⟩
  obtain ⟨bg,rfl⟩:∃ u:Nat,r5=(u:Int):=⟨r5.toNat,by omega⟩
  refine nameI ?_
  refine ⟨_,rfl,p,cl,3,rfl,hp5,by decide,by decide,fun r6 H6 r60 r6m s6 hp6=>?_⟩
  obtain ⟨sp,rfl⟩:∃ u:Nat,r6=(u:Int):=⟨r6.toNat,by omega⟩
  refine ⟨_,_,rfl,rfl,?_⟩
  refine nameI ?_
  have s06:SB [p] H H6:=((s03.trans s4).trans s5).trans s6
  have hat:at_ < 1+sz0:=by omega
  let wd:Nat->Str:=fun i=>cutS st none (some (at_:Int))++⟨#[97+(bg+i*(1+sp)) % 26]⟩++cutS st (some ((at_+1:Nat):Int)) none
  have la':=(hst.take at_).len
  have lb:=(hst.dropE (at_+1)).len
  have key:∀ i,Ltr (wd i) (min at_ (1+sz0)+1+(1+sz0-min (at_+1) (1+sz0))):=fun i=>((hst.take at_).append (Ltr.one (by omega))).append (hst.dropE (at_+1))
  refine ⟨_,rfl,_,rfl,by omega,by omega,fun D hD=>?_⟩
  rw [Int.toNat_natCast]
  refine lc_seq walk_range hD (by omega) (fun i us _=>us=((List.range i).map wd).map V.str) rfl (fun _ _=>trivial) (fun _ _ _ _ _ h=>h) (fun Pv i x Hx H' us hi sx y hR hl fin _=>?_) (fun us Hx sx hDx hR hl=>?_)
  ·obtain ⟨rfl,rfl⟩:=y
   have e4:((bg:Int)+(0+(i:Int))*(1+(sp:Int))) % 26=(((bg+i*(1+sp)) % 26:Nat):Int):=by
    rw [Int.zero_add]; push_cast; rfl
   refine ⟨rfl,?_⟩
   refine ⟨_,rfl,_,rfl,_,rfl,st,rfl,by omega,_,rfl,_,rfl,_,rfl,_,rfl,_,_,rfl,rfl,.inl ⟨by show (-(2 ^ 64):Int) < 0+(i:Int); omega,by show 0+(i:Int) < 2 ^ 64; omega⟩,_,_,rfl,rfl,_,_,rfl,rfl,(by show (0:Int) < 26; decide),abc,_,97+(bg+i*(1+sp)) % 26,rfl,rfl,abc_len,?_,_,_,rfl,rfl,?_,?_⟩
   ·show atI abc.cps.toList (((bg:Int)+(0+(i:Int))*(1+(sp:Int))) % 26)=_
    rw [e4]
    exact atI_natN (abc_code _ (by omega))
   ·rw [la']; show _+1<=_; omega
   have ea:(at_:Int)+1=((at_+1:Nat):Int):=by omega
   refine ⟨_,rfl,_,rfl,_,_,rfl,rfl,_,rfl,st,rfl,by omega,_,_,rfl,rfl,?_,?_⟩
   ·show (cutS st none (some (at_:Int))++(⟨#[97+(bg+i*(1+sp)) % 26]⟩:Str)).length+(cutS st (some ((at_:Int)+1)) none).length<=sizeLine
    have h1:(cutS st none (some (at_:Int))++(⟨#[97+(bg+i*(1+sp)) % 26]⟩:Str)).length=min at_ (1+sz0)+1:=((hst.take at_).append (Ltr.one (c:=97+(bg+i*(1+sp)) % 26) (by omega))).len
    rw [h1,ea,lb]; omega
   refine fin _ _ SB.refl ?_
   rw [hR,List.range_succ,List.map_append,List.map_append]
   show _++[V.str (cutS st none (some (at_:Int))++(⟨#[97+(bg+i*(1+sp)) % 26]⟩:Str)++cutS st (some ((at_:Int)+1)) none)]=_
   rw [ea]
   rfl
  ·subst hR
   refine q D _ Hx (s06.trans sx.nil) (hp6.sb sx) (s06.dom _ hD) hDx (by simp) (nodup_range fun i j hi hj hn e=>?_) (fun k hk=>?_)
   ·have e1:=(hst.take at_).mid (c:=97+(bg+i*(1+sp)) % 26) (b:=cutS st (some ((at_+1:Nat):Int)) none)
    have e2:=(hst.take at_).mid (c:=97+(bg+j*(1+sp)) % 26) (b:=cutS st (some ((at_+1:Nat):Int)) none)
    have e':cutS st none (some (at_:Int))++(⟨#[97+(bg+i*(1+sp)) % 26]⟩:Str)++cutS st (some ((at_+1:Nat):Int)) none=cutS st none (some (at_:Int))++(⟨#[97+(bg+j*(1+sp)) % 26]⟩:Str)++cutS st (some ((at_+1:Nat):Int)) none:=e
    rw [e',e2] at e1
    injection e1 with e1
    have:sp=0\/sp=1\/sp=2:=by omega
    rcases this with rfl | rfl | rfl <;> omega
   ·obtain ⟨i,hi,rfl⟩:=List.mem_map.mp hk
    exact (key i).name (by omega) (by omega)
end
namespace Gr
theorem tidy_named {ns:List Str} {bs:List (Tr × Int)} (h:∀ p ∈ bs,p.1.1 ∈ ns/\Named ns p.1.2):Named ns (tidy bs):=named_iff.mpr fun p hp=>by
 have hp:p ∈ tdy tEnc bs:=by rw [<- ps_ofPs (tdy tEnc bs)]; exact hp
 obtain ⟨q,hq,e⟩:=tdy_keys (enc:=tEnc) _ p hp
 rw [<- e]
 exact h q hq
theorem tidy_ne {bs:List (Tr × Int)} (h:bs ≠ []) (pos:∀ p ∈ bs,1<=p.2):tidy bs ≠ .nil:=fun e=>by
 cases bs with
 | nil=>exact h rfl
 | cons p r =>
  have h0:tdy tEnc (p::r)=[]:=by rw [<- ps_ofPs (tdy tEnc (p::r))]; show (tidy _).ps=[]; rw [e]; rfl
  have h1:=tdy_sum (enc:=tEnc) (p::r) p.1
  rw [h0,sumE_cons,if_pos rfl] at h1
  have h2:=sumE_nonneg (bs:=r) p.1 fun q hq=>by have:=pos q (mcm _ hq); omega
  have h3:=pos p (mcs ..)
  simp only [sumE] at h1
  omega
end Gr
section
variable {P:Program} {w:World} {K:PySem.W.Frag} {mg:Str->Option Value} {base:Heap} {f:Addr} {fd:FuncData}
abbrev N__law_drawn_grove:List Str:=["_law_pot_here","_law_names_here","_law_parts","_law_great","_law_pairs","_law_kind","_law_within","_law_inner","_law_way","_law_many"]
theorem sc__law_drawn_grove:FnScope N__law_drawn_grove ["_law_pot_here","_law_names_here","_law_parts","_law_great"] (defScope s__law_drawn_grove):=⟨rfl,rfl,rfl,by decide +kernel,rfl,by decide +kernel,by decide +kernel⟩
theorem none__law_drawn_grove {ps:List Str} {k:Nat}:FnOk P w K mg base CX0 k f fd ps (spGroveR K 0):=none_sp fun vs H Q E ⟨_,_,_,_,_,_,_,_,_,h,_⟩=>by omega
theorem ok__law_drawn_grove {n:Nat} (B:BI mg) (G__law_take:Got P w K mg base "_law_take" ["_law_pot_here","_law_many"] (1) (spTakeR)) (G__law_drawn_grove:Got P w K mg base "_law_drawn_grove" ["_law_pot_here","_law_names_here","_law_parts","_law_great"] (n+1) (spGroveR K n)) (G__law_grove_of:Got P w K mg base "_law_grove_of" ["_law_pairs"] (1) (spTidyG K)) (F:Fun K "_law_drawn_grove" "_law_drawn_grove" s__law_drawn_grove f fd):FnOk P w K mg base CX0 (n+2) f fd ["_law_pot_here","_law_names_here","_law_parts","_law_great"] (spGroveR K (n+1)):=by
 refine F.ok sc__law_drawn_grove (fun vs H Q E h=>?_) (fun cdv A outer s H vs Q E hr h=>?_)
 ·obtain ⟨p,nl,cl,ks,m,c,rfl,_⟩:=h
  rfl
 obtain ⟨p,nl,cl,ks,m,c,rfl,hp,⟨hn,np,k8,kok⟩,hm,m12,c3,c60,q⟩:=h
 have hun2:=hunT hr
 refine ⟨_,pss_cons (ps_set (i:=4) sc__law_drawn_grove.nd rfl (.inl rfl) (pe_lst pa_nil))
  (pss_cons (ps_while PassesOwn.never (PW.pt (pw_and (pt_cmpR op_gt (pv 2) pe_int (nomark _)) (pw_and1 (pt_cmpR (op_neD (by show A.units+3+64 < cLine; omega)) (pv 1) (pe_lst pa_nil) (nomark _))))) (pss_cons (ps_set (i:=5) sc__law_drawn_grove.nd rfl (.inl rfl) (pe_ix ix_list (pv 1) (pe_got G__law_take (hr.mono (by omega)) rfl (pa_cons (pv 0) (pa_cons (pe_callB call_len_seq rfl B.len PySem.boot_len (pa_cons (pv 1) pa_nil)) pa_nil))) (fun _ _=>rfl)))
  (pss_cons (ps_set (i:=6) sc__law_drawn_grove.nd rfl (.inl rfl) (pe_got G__law_take (hr.mono (by omega)) rfl (pa_cons (pv 0) (pa_cons (pv 2) pa_nil))))
  (pss_cons (ps_set (i:=7) sc__law_drawn_grove.nd rfl (.inl rfl) (pe_got G__law_drawn_grove (hr.mono (by omega)) rfl (pa_cons (pv 0) (pa_cons (pv 1) (pa_cons (pv 6) (pa_cons (pv 3) pa_nil))))))
  (pss_cons (ps_set (i:=8) sc__law_drawn_grove.nd rfl (.inl rfl) (pe_got G__law_take (hr.mono (by omega)) rfl (pa_cons (pv 0) (pa_cons pe_int pa_nil))))
  (pss_cons (ps_set (i:=9) sc__law_drawn_grove.nd rfl (.inl rfl) (pe_ix ix_list (pe_lst (pa_cons pe_int (pa_cons pe_int (pa_cons pe_int pa_nil)))) (pe_op op_mod (pv 8) pe_int) (fun _ _=>rfl)))
  (pss_cons (ps_if (pt_cmpR op_eq (pv 8) pe_int (nomark _)) (pss_one (ps_set (i:=9) sc__law_drawn_grove.nd rfl (.inl rfl) (pe_op op_add pe_int (pe_got G__law_take (hr.mono (by omega)) rfl (pa_cons (pv 0) (pa_cons (pv 3) pa_nil)))))) pss_nil)
  (pss_cons (ps_expr (pe_bm PySem.F.plainAttrs_list PySem.F.slot_list_append PySem.F.type_list_append mt_append (pv 4) (pa_cons (pe_tup (pa_cons (pe_tup (pa_cons (pv 5) (pa_cons (pv 7) pa_nil))) (pa_cons (pv 9) pa_nil))) pa_nil)))
  (pss_one (ps_set (i:=2) sc__law_drawn_grove.nd rfl (.inl rfl) (pe_op op_sub (pe_op op_sub (pv 2) pe_int) (pv 6))))))))))))
  (pss_one (ps_ret (pe_got G__law_grove_of (hr.mono (by omega)) rfl (pa_cons (pv 4) pa_nil))))),?_⟩
 have szl:=sizeLine_eq
 refine ⟨by show 0<=sizeLine; decide,fun D nD=>?_⟩
 have t1:=SB.new (ps:=[]) nD (.lst [])
 have hD1:upd H D (.lst []) D=some (.lst []):=upd_same
 have hp1:=hp.sb t1
 have pD:=hp.ne nD
 have cD:=hp.nc nD
 have hn1:=t1.keep _ _ hn nmn
 have nDl:nl ≠ D:=ne_of_none hn nD
 generalize upd H D (.lst [])=H1 at t1 hD1 hp1 hn1
 refine nameI ?_
 let Pv:Nat->L2.St->Hp->Prop:=fun k σ H2=>SB [p,D] H1 H2/\PotC H2 p cl/\∃ (us:List V) (acc:List (Tr × Int)) (o5 o6 o7 o8 o9:Option V),σ=[some (.ref p),some (.ref nl),some (.int (k:Int)),some (.int c),some (.ref D),o5,o6,o7,o8,o9]/\H2 D=some (.lst us)/\Bears K H2 Gr.pEnc us acc/\Gr.tot acc+k<=m/\(k < m->acc ≠ [])/\allE acc<=acc.length*c/\∀ x ∈ acc,(NameOk x.1.1/\x.1.2.Ok (m*c+1)/\1<=x.2)/\x.1.2.deep < m/\x.1.1 ∈ ks/\Gr.Named ks x.1.2
 refine ⟨Pv,⟨m,SB.refl,hp1,[],[],none,none,none,none,none,rfl,hD1,.nil,by show 0+m<=m; omega,fun h=>by omega,by simp [allE],fun x hx=>nomatch hx⟩,fun k σ H2 h=>?_⟩
 obtain ⟨s2,hp2,us,acc,o5,o6,o7,o8,o9,rfl,hD2,hb2,tk,ne,al,good⟩:=h
 have hn2:=s2.keep _ _ hn1 (by simp [np,nDl])
 have accl:=Gr.len_tot acc
 have usl:=hb2.length
 have done:(k=0\/ks=[])->∀ H3,SB [] H2 H3->tRet (tCall (spTidyG K) [] E0 (tCons (tVar 4) tNil)) { nx:=fun x H'=>Q V.non H',rt:=Q } [some (.ref p),some (.ref nl),some (.int (k:Int)),some (.int c),some (.ref D),o5,o6,o7,o8,o9] H3:=fun hor H3 s3=>by
  have hD3:=s3.keep _ _ hD2 nmn
  have s03:SB [p] H H3:=((t1.nil.trans (s2.trans s3.nil)).mono (qs:=[D,p]) (by simp)).drop nD
  have hc0:(0:Int)<=(m:Int)*c:=Int.mul_nonneg (by omega) (by omega)
  refine ⟨_,rfl,D,us,acc,rfl,.inl (SqL.of hD3),hb2.sb s3 Gr.noList_pEnc,by omega,⟨m*c+1,fun x hx=>⟨(good x hx).1.1,(good x hx).1.2.1,by have:=(good x hx).2.1; omega⟩⟩,fun v H' s4 hv=>?_⟩
  have hle:(acc.length:Int)*c<=(m:Int)*c:=Int.mul_le_mul_of_nonneg_right (by omega) (by omega)
  refine q v _ H' (s03.trans s4.nil) ((hp2.sb s3).sb s4) hv (Gr.tidy_ok (fun x hx=>(good x hx).1) (by omega) (Int.le_refl _)) (Nat.le_trans (Gr.tidy_parts acc) (by omega)) (Gr.tidy_deep fun x hx=>(good x hx).2.1) (Gr.tidy_named fun x hx=>(good x hx).2.2) fun m1 kn=>Gr.tidy_ne (ne ?_) fun x hx=>(good x hx).1.2.2
  rcases hor with h | h
  ·omega
  ·exact absurd h kn
 refine ⟨_,rfl,_,_,rfl,rfl,_,rfl,?_⟩
 by_cases k0:0 < k
 ·rw [decide_eq_true (show (0:Int) < (k:Int) by omega)]
  refine iteT ?_
  refine ⟨_,rfl,by show 0<=sizeLine; decide,fun e0 ne0=>?_⟩
  have t3:=SB.new (ps:=[]) ne0 (.lst [])
  have he3:SqL K (upd H2 e0 (.lst [])) e0 []:=SqL.of upd_same
  have hn3:=t3.keep _ _ hn2 nmn
  have hp3:=hp2.sb t3
  have hD3:=t3.keep _ _ hD2 nmn
  generalize upd H2 e0 (.lst [])=H3 at t3 he3 hn3 hp3 hD3
  refine ⟨.list (ks.map .str),.list [],Dp.lst (SqL.of hn3) (bears_strs _).dp,Dp.lst he3 .nil,names_shaped kok,by decide +kernel,_,rfl,?_⟩
  rw [eqv_nil]
  by_cases kn:ks=[]
  ·rw [decide_eq_true kn]
   exact done (.inr kn) H3 t3
  rw [decide_eq_false kn]
  have kl:0 < ks.length:=List.length_pos_iff.mpr kn
  refine ⟨fun σ' H'=>∃ k',k' < k/\Pv k' σ' H',fun σ' H' z=>z,?_⟩
  refine ⟨_,rfl,_,rfl,_,rfl,nl,_,rfl,.inl (SqL.of hn3),p,cl,_,rfl,hp3,by rw [List.length_map]; omega,by rw [List.length_map]; omega,fun r4 H4 r40 r4m s4 hp4=>?_⟩
  obtain ⟨u,rfl⟩:∃ u:Nat,r4=(u:Int):=⟨r4.toNat,by omega⟩
  rw [List.length_map] at r4m
  have eu:ks[u]?=some ks[u]:=List.getElem?_eq_getElem (by omega)
  generalize hkk:ks[u]=kk at eu
  have kkm:=List.mem_of_getElem? eu
  have hn4:=s4.keep _ _ hn3 (by simp [np])
  refine ⟨nl,_,_,_,rfl,rfl,SqL.of hn4,atI_nat (j:=u) (by rw [List.getElem?_map,eu]; rfl),?_⟩
  refine nameI ?_
  refine ⟨_,rfl,_,rfl,p,cl,_,rfl,hp4,by omega,by omega,fun r5 H5 r50 r5m s5 hp5=>?_⟩
  obtain ⟨wn,rfl⟩:∃ u:Nat,r5=(u:Int):=⟨r5.toNat,by omega⟩
  refine nameI ?_
  have hn5:=s5.keep _ _ hn4 (by simp [np])
  refine ⟨_,rfl,_,rfl,_,rfl,_,rfl,p,nl,cl,ks,wn,c,rfl,hp5,⟨hn5,np,k8,kok⟩,by omega,by omega,c3,c60,fun v g H6 s6 hp6 hg gok gpt gdp gnm _=>?_⟩
  refine nameI ?_
  refine ⟨_,rfl,p,cl,4,rfl,hp6,by decide,by decide,fun wy H7 wy0 wy4 s7 hp7=>?_⟩
  refine nameI ?_
  refine ⟨by show 3<=sizeLine; decide,fun L nL=>?_⟩
  have t8:=SB.new (ps:=[]) nL (.lst [.int 1,.int 2,.int 3])
  have hL8:upd H7 L (.lst [.int 1,.int 2,.int 3]) L=some (.lst [.int 1,.int 2,.int 3]):=upd_same
  have hp8:=hp7.sb t8
  generalize upd H7 L (.lst [.int 1,.int 2,.int 3])=H8 at t8 hL8 hp8
  obtain ⟨mv,emv,mv1,mv3⟩:∃ mv:Int,atI [V.int 1,V.int 2,V.int 3] (wy % 3)=some (.int mv)/\1<=mv/\mv<=3:=by
   rcases (by omega:wy % 3=0\/wy % 3=1\/wy % 3=2) with z | z | z <;> rw [z]
   ·exact ⟨1,rfl,by omega,by omega⟩
   ·exact ⟨2,rfl,by omega,by omega⟩
   ·exact ⟨3,rfl,by omega,by omega⟩
  refine ⟨_,rfl,_,_,rfl,rfl,(by show (0:Int) < 3; decide),L,_,_,_,rfl,rfl,SqL.of hL8,emv,?_⟩
  refine nameI ?_
  have s38:SB [p] H3 H8:=(((s4.trans s5).trans s6).trans s7).trans t8.nil
  have s68:SB [p] H6 H8:=s7.trans t8.nil
  dsimp only
  refine seq_via (fun σ' G=>∃ mz:Int,σ'=[some (.ref p),some (.ref nl),some (.int (k:Int)),some (.int c),some (.ref D),some (.str kk),some (.int (wn:Int)),some v,some (.int wy),some (.int mz)]/\SB [p] H8 G/\PotC G p cl/\1<=mz/\mz<=c) (fun nx hnx=>?_) (fun σ' G h=>?_)
  ·refine ⟨_,rfl,rfl,_,rfl,?_⟩
   cases decide (V.int wy=V.int 3) with
   | false=>exact iteF (hnx _ _ ⟨mv,rfl,SB.refl,hp8,by omega,by omega⟩)
   | true =>
    refine iteT ⟨_,rfl,_,rfl,p,cl,_,rfl,hp8,by omega,Int.lt_of_le_of_lt c60 (by decide +kernel),fun r9 H9 r90 r9m s9 hp9=>?_⟩
    exact ⟨_,_,rfl,rfl,nameI (hnx _ _ ⟨1+r9,rfl,s9,hp9,by omega,by omega⟩)⟩
  obtain ⟨mz,rfl,s9,hp9,mz1,mzc⟩:=h
  have s39:SB [p] H3 G:=s38.trans s9
  have s69:SB [p] H6 G:=s68.trans s9
  have hD9:=s39.keep _ _ hD3 (by simpa using fun z:D=p=>pD z.symm)
  have hg9:=hg.sb s69
  refine ⟨_,rfl,.inl ⟨rfl,_,SqL.of hD9⟩,_,rfl,_,rfl,by show 2<=sizeLine; decide,fun T1 n1=>?_⟩
  have t10:=SB.new (ps:=[]) n1 (.tup [.str kk,v])
  have hT1:SqT K (upd G T1 (.tup [.str kk,v])) T1 [.str kk,v]:=SqT.of upd_same
  have hD10:=t10.keep _ _ hD9 nmn
  have hp10:=hp9.sb t10
  have hg10:=hg9.sb t10
  generalize upd G T1 (.tup [.str kk,v])=H10 at t10 hT1 hD10 hp10 hg10
  refine ⟨_,rfl,by show 2<=sizeLine; decide,fun T2 n2=>?_⟩
  have t11:=SB.new (ps:=[]) n2 (.tup [.ref T1,.int mz])
  have hT2:SqT K (upd H10 T2 (.tup [.ref T1,.int mz])) T2 [.ref T1,.int mz]:=SqT.of upd_same
  have hT1':=t11.sqT hT1
  have hD11:=t11.keep _ _ hD10 nmn
  have hp11:=hp10.sb t11
  have hg11:=hg10.sb t11
  generalize upd H10 T2 (.tup [.ref T1,.int mz])=H11 at t11 hT2 hT1' hD11 hp11 hg11
  refine ⟨D,us,_,rfl,rfl,hD11,by omega,?_⟩
  have t12:=SB.set (ps:=[D]) hD11 (by simp) (.lst (us++[.ref T2]))
  have hD12:upd H11 D (.lst (us++[.ref T2])) D=some (.lst (us++[.ref T2])):=upd_same
  have hp12:=hp11.keep t12 (by simpa using pD) (by simpa using cD)
  generalize upd H11 D (.lst (us++[.ref T2]))=H12 at t12 hD12 hp12
  have s211:SB [p] H2 H11:=(t3.nil.trans s39).trans (t10.trans t11).nil
  have s212:SB [p,D] H2 H12:=(s211.mono (by simp)).trans (t12.mono (by simp))
  refine ⟨_,rfl,_,_,rfl,rfl,_,rfl,_,_,rfl,rfl,?_⟩
  have ek:(k:Int)-1-(wn:Int)=((k-1-wn:Nat):Int):=by omega
  refine nameI ⟨k-1-wn,by omega,s2.trans s212,hp12,us++[.ref T2],acc++[((kk,g),mz)],_,_,_,_,_,by rw [<- ek]; rfl,hD12,?_,?_,fun _=>by simp,?_,fun x hx=>?_⟩
  ·exact ((hb2.sb s211 Gr.noList_pEnc).sb t12 Gr.noList_pEnc).append (.cons (Dp.tup (t12.sqT hT2) (.cons (Dp.tup (t12.sqT hT1') (.cons (.str _) (.cons (hg11.sb t12) .nil))) (.cons (.int _) .nil))) .nil)
  ·rw [Gr.tot_append]
   have:Gr.tot [((kk,g),mz)]=1+g.parts+0:=rfl
   omega
  ·rw [allE_append,List.length_append,List.length_singleton]
   have h1:allE [((kk,g),mz)]=mz+0:=rfl
   have h2:((acc.length+1:Nat):Int)*c=acc.length*c+c:=by rw [Int.natCast_add,Int.add_mul]; simp
   omega
  ·rcases List.mem_append.mp hx with hx | hx
   ·exact good x hx
   ·rw [List.mem_singleton.mp hx]
    have hle:(wn:Int)*c<=(m:Int)*c:=Int.mul_le_mul_of_nonneg_right (by omega) (by omega)
    exact ⟨⟨kok kk kkm,gok.mono (by omega),mz1⟩,by show g.deep < m; omega,kkm,gnm⟩
 ·rw [decide_eq_false (show ¬ (0:Int) < (k:Int) by omega)]
  exact iteF (done (.inl (by omega)) H2 SB.refl)
end
theorem KdAll.thaw {K:PySem.W.Frag} {H:Hp} {bad:List Addr} {D:Addr} {od:Obj} {kvs:List (Key × V)} {u:HO} (h:H D=some (.frz od (.dK kvs))):∀ {vs:List V} {b:Bk},KdAll K H bad vs b->KdAll K (upd H D u) bad vs b
 | _,_,.nil=>.nil
 | _,_,.cons ⟨t,l,zs,e1,e2,e3,e4,e5⟩ r=>.cons ⟨t,l,zs,e1,sqT_dic h _ _ e2,by rw [upd_ne (fun z=>by rw [z,h] at e3; cases e3)]; exact e3,e4.tp (sqT_dic h) Ru.noList_enc,e5⟩ (KdAll.thaw h r)
theorem KdAll.rev {K:PySem.W.Frag} {H:Hp} {bad:List Addr}:∀ {vs:List V} {b:Bk},KdAll K H bad vs b->KdAll K H bad vs.reverse b.reverse
 | _,_,.nil=>.nil
 | _,_,.cons h r=>by
  rw [List.reverse_cons,List.reverse_cons]
  exact (KdAll.rev r).append (.cons h .nil)
section
variable {P:Program} {w:World} {K:PySem.W.Frag} {mg:Str->Option Value} {base:Heap} {f:Addr} {fd:FuncData}
abbrev N__law_kinds:List Str:=["_law_book","_law_turned","_law_found","_law_name","_law_spreads","_law_rules"]
theorem sc__law_kinds:FnScope N__law_kinds ["_law_book","_law_turned"] (defScope s__law_kinds):=⟨rfl,rfl,rfl,by decide +kernel,rfl,by decide +kernel,by decide +kernel⟩
theorem ok__law_kinds (B:BI mg) (F:Fun K "_law_kinds" "_law_kinds" s__law_kinds f fd):FnOk P w K mg base CX0 (1) f fd ["_law_book","_law_turned"] (spKindsR K):=by
 refine F.ok sc__law_kinds (fun vs H Q E h=>?_) (fun cdv A outer s H vs Q E hr h=>?_)
 ·obtain ⟨d,b,t,rfl,_⟩:=h
  rfl
 obtain ⟨d,b,t,rfl,hd,b100,q⟩:=h
 have hun2:=hunT hr
 refine ⟨_,pss_cons (ps_lock (ps_setLc (i:=2) (own:=[("_law_name",3),("_law_spreads",4),("_law_rules",5)]) (g:=(gTup K 2 (gCons (gName 3) (gCons (gTup K 2 (gCons (gName 4) (gCons (gName 5) gNil))) gNil)))) (tt:=tYes) (te:=(tTup (tCons (tVar 3) (tCons (tVar 4) (tCons (tCB (fun xs H Q=>∃ p ys,xs=[.ref p]/\(SqL K H p ys\/SqT K H p ys)/\∀ l,H l=none->Q (.ref l) (upd H l (.lst ys))) (tCons (tVar 5) tNil)) tNil))))) rfl sc__law_kinds.nd rfl rfl (sw_true rfl rfl rfl (by decide +kernel)) (pi_items (pv 0)) (blkOk_by (N:=N__law_kinds) (sc:=defScope s__law_kinds) (by decide +kernel)) (fun _ _ _ _ _=>(pg_tup rfl (pgs_cons (pg_name (i:=3) sc__law_kinds.nd rfl (.inl rfl)) (pgs_cons (pg_tup rfl (pgs_cons (pg_name (i:=4) sc__law_kinds.nd rfl (.inl rfl)) (pgs_cons (pg_name (i:=5) sc__law_kinds.nd rfl (.inl rfl)) pgs_nil))) pgs_nil)))) (fun _ _ _ _ _=>pts_nil) (fun _ _ _ _ _=>(pe_tup (pa_cons (pv 3) (pa_cons (pv 4) (pa_cons (pe_callTy call_list_of rfl B.list boot_list (pa_cons (pv 5) pa_nil)) pa_nil)))))))
  (pss_one (ps_ret (pe_ix ix_list (pe_lst (pa_cons (pv 2) (pa_cons (pe_revL (pv 2)) pa_nil))) (pe_callTy call_int1 rfl B.int boot_int (pa_cons (pv 1) pa_nil)) (fun _ _=>rfl)))),?_⟩
 have szl:=sizeLine_eq
 obtain ⟨us,hd1,hpl⟩:=hd
 have ul:=hpl.length
 have kl:(nKV b.names us).length=b.length:=by
  show (List.zipWith _ _ _).length=_
  rw [List.length_zipWith,List.length_map]; omega
 refine ⟨d,_,hd1,trivial,fun od=>?_⟩
 have hL:∀ l xs,H l=some (.lst xs)->upd H d (.frz od (.dK (nKV b.names us))) l=some (.lst xs):=fun l xs h=>by rw [upd_ne (fun z=>by rw [z,hd1] at h; cases h)]; exact h
 have hT:∀ a xs,SqT K H a xs->SqT K (upd H d (.frz od (.dK (nKV b.names us)))) a xs:=fun a xs s=>by
  rcases s with (s | ⟨o,s⟩) | s
  ·exact .inl (.inl (by rw [upd_ne (fun z=>by rw [z,hd1] at s; cases s)]; exact s))
  ·exact .inl (.inr ⟨o,by rw [upd_ne (fun z=>by rw [z,hd1] at s; cases s)]; exact s⟩)
  ·exact .inr s
 have hplL:PairedL (KvA K (upd H d (.frz od (.dK (nKV b.names us))))) us b:=hpl.mono fun v k ⟨t,l,zs,e1,e2,e3,e4⟩=>⟨t,l,zs,e1,hT _ _ e2,hL _ _ e3,e4.tp hT Ru.noList_enc⟩
 have hdL:upd H d (.frz od (.dK (nKV b.names us))) d=some (.frz od (.dK (nKV b.names us))):=upd_same
 have un:∀ H',SB [] (upd H d (.frz od (.dK (nKV b.names us)))) H'->SB [] H (upd H' d (.dK (nKV b.names us))):=fun H' s=>s.unlock hd1 (fun _ z=>nomatch z) (fun _ _ z=>nomatch z)
 have dm:∀ p,upd H d (.frz od (.dK (nKV b.names us))) p=none->H p=none:=fun p h=>by
  have z:p ≠ d:=fun z=>by rw [z,upd_same] at h; cases h
  rwa [upd_ne z] at h
 generalize upd H d (.frz od (.dK (nKV b.names us)))=HL at hplL hdL un dm
 refine ⟨_,rfl,d,od,_,rfl,hdL,fun D nD=>?_⟩
 have dD:d ≠ D:=fun z=>by rw [z,nD] at hdL; cases hdL
 refine lc_it walk_items (fun i H2=>SB [D] HL H2/\∃ ws,H2 D=some (.lst ws)/\KdAll K H2 [D] ws (b.take i)) ⟨SB.new nD _,[],upd_same,.nil⟩ (fun i H2 hi h=>h.1.frzs _ _ _ hdL) (fun i x H2 H' hi h y=>?_) (fun H2 h=>?_)
 ·obtain ⟨s2,ws,hD2,hk2⟩:=h
  obtain ⟨T,x1,y1,rfl,hTn,rfl,ex,ey⟩:=y
  have hib:i < b.length:=by rw [kl] at hi; exact hi
  obtain ⟨k,ek⟩:∃ k,b[i]?=some k:=⟨_,List.getElem?_eq_getElem hib⟩
  obtain ⟨u,eu⟩:∃ u,us[i]?=some u:=⟨_,List.getElem?_eq_getElem (by omega)⟩
  have enk:b.names[i]?=some k.n:=by rw [List.getElem?_map,ek]; rfl
  have ekv:(nKV b.names us)[i]?=some (Sum.inr k.n,u):=by
   show (List.zipWith _ _ _)[i]?=_
   rw [List.getElem?_zipWith,enk,eu]
  have ex:(nKV b.names us)[i]?.map (fun kv:Key × V=>kV kv.1)=some x1:=ex
  have ey:(nKV b.names us)[i]?.map Prod.snd=some y1:=ey
  rw [ekv] at ex ey
  cases ex
  cases ey
  obtain ⟨k',ek',tt,l,zs,e1,e2,e3,e4⟩:=hplL.get eu
  rw [ek] at ek'
  cases ek'
  have e1:u=.ref tt:=e1
  subst e1
  have t3:=SB.new (ps:=[]) hTn (.tup [kV (Sum.inr k.n),.ref tt])
  have hT3:upd H2 T (.tup [kV (Sum.inr k.n),.ref tt]) T=some (.tup [kV (Sum.inr k.n),.ref tt]):=upd_same
  have hD3:=t3.keep _ _ hD2 nmn
  have hk3:=hk2.sb t3 NoLst.nil
  have s3:=s2.trans (t3.nil (ps:=[D]))
  generalize upd H2 T (.tup [kV (Sum.inr k.n),.ref tt])=H3 at t3 hT3 hD3 hk3 s3
  have lD:l ≠ D:=fun z=>by rw [z,nD] at e3; cases e3
  have hl3:=s3.keep _ _ e3 (by simpa using lD)
  refine ⟨T,_,rfl,SqT.of hT3,rfl,_,_,rfl,_,_,rfl,tt,_,rfl,s3.sqT e2,rfl,_,_,rfl,_,_,rfl,rfl,rfl,rfl,?_⟩
  refine ⟨_,rfl,_,rfl,_,rfl,l,zs,rfl,.inl (SqL.of hl3),fun L2 nL2=>?_⟩
  have t4:=SB.new (ps:=[]) nL2 (.lst zs)
  have hL4:upd H3 L2 (.lst zs) L2=some (.lst zs):=upd_same
  have hD4:=t4.keep _ _ hD3 nmn
  have hk4:=hk3.sb t4 NoLst.nil
  have s4:=s3.trans (t4.nil (ps:=[D]))
  have LD:L2 ≠ D:=fun z=>by rw [z,hD3] at nL2; cases nL2
  generalize upd H3 L2 (.lst zs)=H4 at t4 hL4 hD4 hk4 s4
  refine ⟨by show 3<=sizeLine; decide,fun T2 nT2=>?_⟩
  have t5:=SB.new (ps:=[]) nT2 (.tup [kV (Sum.inr k.n),.bl k.w,.ref L2])
  have hT5:SqT K (upd H4 T2 (.tup [kV (Sum.inr k.n),.bl k.w,.ref L2])) T2 [.str k.n,.bl k.w,.ref L2]:=SqT.of upd_same
  have hL5:=t5.keep _ _ hL4 nmn
  have hD5:=t5.keep _ _ hD4 nmn
  have hk5:=hk4.sb t5 NoLst.nil
  have s5:=s4.trans (t5.nil (ps:=[D]))
  generalize upd H4 T2 (.tup [kV (Sum.inr k.n),.bl k.w,.ref L2])=H5 at t5 hT5 hL5 hD5 hk5 s5
  have wl:=hk5.length
  rw [List.length_take] at wl
  refine ⟨_,hD5,by omega,?_⟩
  have t6:=SB.set (ps:=[D]) hD5 (by simp) (.lst (ws++[.ref T2]))
  refine ⟨s5.trans t6,_,upd_same,?_⟩
  rw [List.take_add_one,ek]
  exact (hk5.sb t6 NoLst.self).append (.cons ⟨T2,L2,zs,rfl,t6.sqT hT5,t6.keep _ _ hL5 (by simpa using LD),(e4.sb s5 Ru.noList_enc).sb t6 Ru.noList_enc,by simpa using LD⟩ .nil)
 ·obtain ⟨s2,ws,hD2,hk2⟩:=h
  rw [kl,List.take_length] at hk2
  have hd2:=s2.frzs _ _ _ hdL
  have s2':SB [] HL H2:=s2.drop nD
  have hk3:KdAll K (upd H2 d (.dK (nKV b.names us))) [D] ws b:=hk2.thaw hd2
  have hD3:upd H2 d (.dK (nKV b.names us)) D=some (.lst ws):=by rw [upd_ne (fun z=>dD z.symm)]; exact hD2
  have s3:=un _ s2'
  have nD0:=dm _ nD
  refine nameI ⟨hd2,?_⟩
  dsimp only
  generalize upd H2 d (.dK (nKV b.names us))=H3 at hk3 hD3 s3
  refine ⟨_,rfl,_,rfl,D,ws,rfl,SqL.of hD3,fun p np=>?_⟩
  have t4:=SB.new (ps:=[]) np (.lst ws.reverse)
  have hp4:upd H3 p (.lst ws.reverse) p=some (.lst ws.reverse):=upd_same
  have hD4:=t4.keep _ _ hD3 nmn
  have hk4:=(hk3.more np).sb t4 NoLst.nil
  have np0:H p=none:=s3.dom _ np
  generalize upd H3 p (.lst ws.reverse)=H4 at t4 hp4 hD4 hk4
  refine ⟨by show 2<=sizeLine; decide,fun L nL=>?_⟩
  have t5:=SB.new (ps:=[]) nL (.lst [.ref D,.ref p])
  have hL5:upd H4 L (.lst [.ref D,.ref p]) L=some (.lst [.ref D,.ref p]):=upd_same
  have hp5:=t5.keep _ _ hp4 nmn
  have hD5:=t5.keep _ _ hD4 nmn
  have hk5:=hk4.sb t5 NoLst.nil
  generalize upd H4 L (.lst [.ref D,.ref p])=H5 at t5 hL5 hp5 hD5 hk5
  have s5:=(s3.trans t4).trans t5
  cases t with
  | true=>exact ⟨_,rfl,.inr ⟨_,rfl,L,_,_,_,rfl,rfl,SqL.of hL5,atI_nat (j:=1) rfl,q p _ H5 s5 np0 hp5 ((hk5.less (bad':=[p]) (by simp)).rev)⟩⟩
  | false=>exact ⟨_,rfl,.inr ⟨_,rfl,L,_,_,_,rfl,rfl,SqL.of hL5,atI_nat (j:=0) rfl,q D _ H5 s5 nD0 hD5 (hk5.less (bad':=[D]) (by simp))⟩⟩
theorem sc_NoKind___init__:FnScope ["self","kind"] ["self","kind"] (defScope s_NoKind___init__):=⟨rfl,rfl,rfl,by decide +kernel,rfl,by decide +kernel,by decide +kernel⟩
theorem ok_NoKind___init__ {C:Addr} (F:Fun K "__init__" "NoKind.__init__" s_NoKind___init__ f fd):FnOk P w K mg base CX0 1 f fd ["self","kind"] (spKindI K C):=by
 refine F.ok sc_NoKind___init__ (fun vs H Q E h=>?_) (fun cdv A outer s H vs Q E hr h=>?_)
 ·obtain ⟨a,y,rfl,_⟩:=h
  rfl
 obtain ⟨a,y,rfl,T,no,ha,q⟩:=h
 refine ⟨_,pss_one (ps_ost (pv 0) (pv 1)),?_⟩
 exact ⟨_,rfl,_,rfl,a,C,rfl,T,no,.inl ⟨ha,q⟩⟩
theorem sc_Endless___init__:FnScope ["self","kind"] ["self","kind"] (defScope s_Endless___init__):=⟨rfl,rfl,rfl,by decide +kernel,rfl,by decide +kernel,by decide +kernel⟩
theorem ok_Endless___init__ {C:Addr} (F:Fun K "__init__" "Endless.__init__" s_Endless___init__ f fd):FnOk P w K mg base CX0 1 f fd ["self","kind"] (spKindI K C):=by
 refine F.ok sc_Endless___init__ (fun vs H Q E h=>?_) (fun cdv A outer s H vs Q E hr h=>?_)
 ·obtain ⟨a,y,rfl,_⟩:=h
  rfl
 obtain ⟨a,y,rfl,T,no,ha,q⟩:=h
 refine ⟨_,pss_one (ps_ost (pv 0) (pv 1)),?_⟩
 exact ⟨_,rfl,_,rfl,a,C,rfl,T,no,.inl ⟨ha,q⟩⟩
abbrev N_Book___init__:List Str:=["self","kinds","name","spreading","rows"]
theorem sc_Book___init__:FnScope N_Book___init__ ["self","kinds"] (defScope s_Book___init__):=⟨rfl,rfl,rfl,by decide +kernel,rfl,by decide +kernel,by decide +kernel⟩
theorem ok_Book___init__ {C_NoBook C_Book:Addr} (B:BI mg) (O_NoBook:Own K mg "NoBook" C_NoBook) (T_Book:ClsF K C_Book ["spread_by_name","rows_by_name"]) (G_are_kinds:Got P w K mg base "are_kinds" ["things"] (87) (spAreKinds K)) (F:Fun K "__init__" "Book.__init__" s_Book___init__ f fd):FnOk P w K mg base (L2.CX P w) (88) f fd ["self","kinds"] (spBInit K C_Book C_NoBook):=by
 refine F.okX sc_Book___init__ (fun vs H Q E h=>?_) (fun cdv A outer s H vs Q E hr h=>?_)
 ·obtain ⟨x,dx,l,xs,ts,rfl,_⟩:=h
  rfl
 obtain ⟨x,dx,l,xs,ts,rfl,hx,hdx,hs,ha,hf,hl,q,qE⟩:=h
 have hun2:=hunT hr
 refine ⟨_,pss_cons (ps_if (pt_not (pt_val (pe_got G_are_kinds (hr.mono (by omega)) rfl (pa_cons (pv 1) pa_nil)))) (pss_one (ps_raise rfl (takes_of rfl rfl rfl rfl) (pmk_own PySem.F.excBase_ValueError O_NoBook.q O_NoBook.gC O_NoBook.k (raises_own O_NoBook.s O_NoBook.t) rfl))) pss_nil)
  (pss_cons (ps_fld (pv 0) (pe_dc (own:=[("name",2),("spreading",3),("rows",4)]) (g:=(gTup K 3 (gCons (gName 2) (gCons (gName 3) (gCons (gName 4) gNil))))) (tt:=tYes) (tk:=(tVar 2)) (tv:=(tVar 3)) rfl sc_Book___init__.nd (pi_list (pv 1)) (blkOk_by (N:=N_Book___init__) (sc:=defScope s_Book___init__) (by decide +kernel)) (fun _ _ _ _ _=>(pg_tup rfl (pgs_cons (pg_name (i:=2) sc_Book___init__.nd rfl (.inl rfl)) (pgs_cons (pg_name (i:=3) sc_Book___init__.nd rfl (.inl rfl)) (pgs_cons (pg_name (i:=4) sc_Book___init__.nd rfl (.inl rfl)) pgs_nil))))) (fun _ _ _ _ _=>pts_nil) (fun _ _ _ _ _=>(pv 2)) (fun _ _ _ _ _=>(pv 3))) rfl)
  (pss_one (ps_fld (pv 0) (pe_dc (own:=[("name",2),("spreading",3),("rows",4)]) (g:=(gTup K 3 (gCons (gName 2) (gCons (gName 3) (gCons (gName 4) gNil))))) (tt:=tYes) (tk:=(tVar 2)) (tv:=(tCB (fun xs H Q=>∃ p ys,xs=[.ref p]/\((SqL K H p ys/\∀ l,H l=none->Q (.ref l) (upd H l (.tup ys)))\/(SqT K H p ys/\Q (.ref p) H))) (tCons (tVar 4) tNil))) rfl sc_Book___init__.nd (pi_list (pv 1)) (blkOk_by (N:=N_Book___init__) (sc:=defScope s_Book___init__) (by decide +kernel)) (fun _ _ _ _ _=>(pg_tup rfl (pgs_cons (pg_name (i:=2) sc_Book___init__.nd rfl (.inl rfl)) (pgs_cons (pg_name (i:=3) sc_Book___init__.nd rfl (.inl rfl)) (pgs_cons (pg_name (i:=4) sc_Book___init__.nd rfl (.inl rfl)) pgs_nil))))) (fun _ _ _ _ _=>pts_nil) (fun _ _ _ _ _=>(pv 2)) (fun _ _ _ _ _=>(pe_callTy call_tuple_of rfl B.tuple boot_tuple (pa_cons (pv 4) pa_nil)))) rfl))),?_⟩
 refine ⟨_,rfl,l,xs,ts,rfl,SqL.of hs,ha,hf,hl,fun b H1 s1 hb=>?_⟩
 refine ⟨_,rfl,?_⟩
 cases b with
 | false=>exact iteT (qE (fun z=>nomatch (hb.mpr z)) H1 s1)
 | true =>
 refine iteF ?_
 obtain ⟨bk,et,ok⟩:=hb.mp rfl
 subst et
 have q2:=q bk rfl ok
 have ha1:=(ha.sb s1).kd
 have hs1:=s1.keep _ _ hs nmn
 have hx1:=s1.keep _ _ hx nmn
 have xlen:=ha1.length
 have szl:=sizeLine_eq
 have b8:=ok.len
 have hlx:l ≠ x:=ne_of hs hx (fun z=>nomatch z)
 refine ⟨_,rfl,l,rfl,⟨_,SqL.of hs1⟩,fun D hD=>?_⟩
 refine dc_seq (walk_list (xs:=xs)) hD (by omega) (fun i kvs _=>kvs=Bk.spKV (bk.take i)) rfl (fun H2 s2=>s2.sqL nmn (SqL.of hs1)) (fun _ _ _ _ _ h=>h) (fun Pv i y H2 H' kvs hi s2 yy hR hl2 fin _=>?_) (fun kvs H2 s2 hD2 hR _=>?_)
 ·obtain ⟨rfl,ey⟩:=yy
  obtain ⟨k,ek,t,r,zs,rfl,h1,h2,h3,_⟩:=ha1.get ey
  refine ⟨t,_,rfl,s2.sqT h1,rfl,_,_,rfl,_,_,rfl,_,_,rfl,rfl,rfl,?_⟩
  refine ⟨_,rfl,_,rfl,fin (Sum.inr k.n) _ _ SB.refl ?_⟩
  rw [hR,putK_new,List.take_add_one,ek,Option.toList_some,Bk.spKV,Bk.spKV,List.map_append]
  ·rfl
  ·intro p hp e
   obtain ⟨j,hj,rfl⟩:=List.mem_map.mp hp
   injection e with e
   exact Bk.nodup_at ok.nd ek j hj e
 ·rw [xlen,List.take_length] at hR
  subst hR
  have hx2:=s2.keep _ _ hx1 nmn
  have hl2:=s2.keep _ _ hs1 nmn
  have ha2:=ha1.sb s2 NoLst.nil
  refine ⟨_,rfl,x,_,dx,_,rfl,hx2,T_Book.c,T_Book.no _ (by simp),by decide,?_⟩
  have e1:putF (Str.ofString "spread_by_name") (V.ref D) []=[(Str.ofString "spread_by_name",V.ref D)]:=rfl
  rw [e1]
  have t3:SB [x] H2 (upd H2 x (.ins C_Book dx [(Str.ofString "spread_by_name",V.ref D)])):=SB.setG hx2 (by simp) (fun _ z=>nomatch z) (fun _ _ z=>nomatch z) _
  have nl3:NoLst H2 [] [x]:=fun p hp=>.inr fun xs z=>by rw [List.mem_singleton.mp hp,hx2] at z; cases z
  have ha3:=ha2.sb t3 nl3
  have hl3:=t3.keep _ _ hl2 (by simpa using hlx)
  have hx3:upd H2 x (.ins C_Book dx [(Str.ofString "spread_by_name",V.ref D)]) x=some (.ins C_Book dx [(Str.ofString "spread_by_name",V.ref D)]):=upd_same
  have hD3:=t3.keep _ _ hD2 (by simpa using ne_of hD2 hx2 (fun z=>nomatch z))
  have s03:=((s1.trans s2).nil (ps:=[x])).trans t3
  generalize upd H2 x (.ins C_Book dx [(Str.ofString "spread_by_name",V.ref D)])=H3 at t3 ha3 hl3 hx3 hD3 s03
  refine ⟨_,rfl,l,rfl,⟨_,SqL.of hl3⟩,fun D2 hn2=>?_⟩
  refine dc_seq (walk_list (xs:=xs)) hn2 (by omega) (fun i kvs H4=>∃ us,kvs=Bk.rowKV (bk.take i) us/\Bears K H4 Kd.rowE us (bk.take i)) ⟨[],rfl,.nil⟩ (fun H4 s4=>s4.sqL nmn (SqL.of hl3)) (fun i us H4 H5 s5 ⟨us',e,hb⟩=>⟨us',e,hb.sb s5 Kd.noList_rowE⟩) (fun Pv i y H4 H' kvs hi s4 yy hR hl4 fin _=>?_) (fun kvs H4 s4 hD4 hR _=>?_)
  ·obtain ⟨rfl,ey⟩:=yy
   obtain ⟨us,rfl,hb⟩:=hR
   obtain ⟨k,ek,t,r,zs,rfl,h1,h2,h3,_⟩:=ha3.get ey
   refine ⟨t,_,rfl,s4.sqT h1,rfl,_,_,rfl,_,_,rfl,_,_,rfl,rfl,rfl,?_⟩
   refine ⟨_,rfl,_,rfl,r,zs,rfl,.inl ⟨SqL.of (s4.keep _ _ h2 nmn),fun p hp=>?_⟩⟩
   have t5:=SB.new (ps:=[]) hp (.tup zs)
   refine fin (Sum.inr k.n) _ _ t5 ⟨us++[.ref p],?_,?_⟩
   ·rw [putK_new,List.take_add_one,ek,Option.toList_some,Bk.rowKV,Bk.rowKV,List.zipWith_append hb.length.symm]
    ·rfl
    ·intro p hp e
     obtain ⟨j,hj,e2⟩:=rowKV_mem hp
     rw [e2] at e
     injection e with e
     exact Bk.nodup_at ok.nd ek j hj e
   ·rw [List.take_add_one,ek,Option.toList_some]
    exact Bears.append (hb.sb t5 Kd.noList_rowE) (.cons (.tup (.inl (.inl upd_same)) (Bears.dp ((h3.sb s4 Ru.noList_enc).sb t5 Ru.noList_enc))) .nil)
  ·rw [xlen,List.take_length] at hR
   obtain ⟨us,rfl,hb⟩:=hR
   have hx4:=s4.keep _ _ hx3 nmn
   refine ⟨_,rfl,x,_,dx,_,rfl,hx4,T_Book.c,T_Book.no _ (by simp),by simp,?_⟩
   have t5:SB [x] H4 (upd H4 x (.ins C_Book dx (bkF D D2))):=SB.setG hx4 (by simp) (fun _ z=>nomatch z) (fun _ _ z=>nomatch z) _
   refine q2 _ ((s03.trans s4.nil).trans t5) ⟨x,dx,D,D2,us,rfl,upd_same,?_,?_,hb.sb t5 Kd.noList_rowE⟩
   ·exact t5.keep _ _ (s4.keep _ _ hD3 nmn) (by simpa using ne_of (s4.keep _ _ hD3 nmn) hx4 (fun z=>nomatch z))
   ·exact t5.keep _ _ hD4 (by simpa using ne_of hD4 hx4 (fun z=>nomatch z))
abbrev N_Book_names:List Str:=["self"]
theorem sc_Book_names:FnScope N_Book_names ["self"] (defScope s_Book_names):=⟨rfl,rfl,rfl,by decide +kernel,rfl,by decide +kernel,by decide +kernel⟩
theorem ok_Book_names {C_Book:Addr} (B:BI mg) (T_Book:ClsF K C_Book ["spread_by_name","rows_by_name"]) (F:Fun K "names" "Book.names" s_Book_names f fd):FnOk P w K mg base CX0 (1) f fd ["self"] (spBNames K C_Book):=by
 refine F.ok sc_Book_names (fun vs H Q E h=>?_) (fun cdv A outer s H vs Q E hr h=>?_)
 ·obtain ⟨v,b,rfl,_⟩:=h
  rfl
 obtain ⟨v,b,rfl,hb,hl,q⟩:=h
 have hun2:=hunT hr
 refine ⟨_,pss_one (ps_ret (pe_callTy (call_listD rfl) rfl B.list boot_list (pa_cons (pe_fld (pv 0) rfl) pa_nil))),?_⟩
 obtain ⟨a,dx,d1,d2,us,rfl,h1,h2,h3,h4⟩:=hb
 refine ⟨_,rfl,a,_,dx,_,_,rfl,h1,T_Book.c,T_Book.no _ (by simp),rfl,d1,_,rfl,.inl h2,fun p hp=>?_⟩
 exact q p _ (SB.new hp _) hp (by rw [upd_same,Bk.spKV,List.map_map,List.map_map]; rfl)
abbrev N_Book_spreads:List Str:=["self","name"]
theorem sc_Book_spreads:FnScope N_Book_spreads ["self","name"] (defScope s_Book_spreads):=⟨rfl,rfl,rfl,by decide +kernel,rfl,by decide +kernel,by decide +kernel⟩
theorem ok_Book_spreads {C_Book C_NoKind:Addr} (B:BI mg) (T_Book:ClsF K C_Book ["spread_by_name","rows_by_name"]) (G_check_kind:GotX P w K mg base "check_kind" ["book","name"] (3) (spCheckK K C_Book C_NoKind)) (F:Fun K "spreads" "Book.spreads" s_Book_spreads f fd):FnOk P w K mg base (L2.CX P w) (4) f fd ["self","name"] (spBSpreads K C_Book C_NoKind):=by
 refine F.okX sc_Book_spreads (fun vs H Q E h=>?_) (fun cdv A outer s H vs Q E hr h=>?_)
 ·obtain ⟨v,b,n,rfl,_⟩:=h
  rfl
 obtain ⟨v,b,n,rfl,hb,hl,qk,qE⟩:=h
 have hun2:=hunT hr
 refine ⟨_,pss_cons (ps_expr (pe_gotS G_check_kind (hr.mono (by omega)) rfl (takes_of rfl rfl rfl rfl) (pa_cons (pv 0) (pa_cons (pv 1) pa_nil))))
  (pss_one (ps_ret (pe_dget (by show A.units+3+1 < cLine; omega) (pe_fld (pv 0) rfl) (pv 1) (fun _ _=>rfl)))),?_⟩
 refine ⟨_,rfl,_,rfl,_,b,n,rfl,hb,hl,fun k e H1 s1=>?_,qE⟩
 obtain ⟨a,dx,d1,d2,us,rfl,h1,h2,h3,h4⟩:=hb.sb0 s1
 refine ⟨_,rfl,a,_,dx,_,_,rfl,h1,T_Book.c,T_Book.no _ (by simp),rfl,_,rfl,d1,V.bl k.w,rfl,getK h2 (by rw [Bk.spKV_val,e]; rfl),qk k e H1 s1⟩
abbrev N_Book_rules:List Str:=["self","name"]
theorem sc_Book_rules:FnScope N_Book_rules ["self","name"] (defScope s_Book_rules):=⟨rfl,rfl,rfl,by decide +kernel,rfl,by decide +kernel,by decide +kernel⟩
theorem ok_Book_rules {C_Book C_NoKind:Addr} (B:BI mg) (T_Book:ClsF K C_Book ["spread_by_name","rows_by_name"]) (G_check_kind:GotX P w K mg base "check_kind" ["book","name"] (3) (spCheckK K C_Book C_NoKind)) (F:Fun K "rules" "Book.rules" s_Book_rules f fd):FnOk P w K mg base (L2.CX P w) (4) f fd ["self","name"] (spBRules K C_Book C_NoKind):=by
 refine F.okX sc_Book_rules (fun vs H Q E h=>?_) (fun cdv A outer s H vs Q E hr h=>?_)
 ·obtain ⟨v,b,n,rfl,_⟩:=h
  rfl
 obtain ⟨v,b,n,rfl,hb,hl,hr4,qk,qE⟩:=h
 have hun2:=hunT hr
 refine ⟨_,pss_cons (ps_expr (pe_gotS G_check_kind (hr.mono (by omega)) rfl (takes_of rfl rfl rfl rfl) (pa_cons (pv 0) (pa_cons (pv 1) pa_nil))))
  (pss_one (ps_ret (pe_callTy call_list_of rfl B.list boot_list (pa_cons (pe_dget (by show A.units+3+1 < cLine; omega) (pe_fld (pv 0) rfl) (pv 1) (fun _ _=>rfl)) pa_nil)))),?_⟩
 refine ⟨_,rfl,_,rfl,_,b,n,rfl,hb,hl,fun k e H1 s1=>?_,qE⟩
 obtain ⟨a,dx,d1,d2,us,rfl,h1,h2,h3,h4⟩:=hb.sb0 s1
 obtain ⟨u,hv,hu⟩:=Bk.rowKV_val n h4 e
 refine ⟨_,rfl,a,_,dx,_,_,rfl,h1,T_Book.c,T_Book.no _ (by simp),rfl,_,rfl,d2,u,rfl,getK h3 hv,?_⟩
 cases hu with
 | tup ht hd=>exact ⟨_,_,rfl,.inr ht,fun l hl=>qk k e l _ _ (s1.trans (SB.new hl _)) (s1.dom l hl) upd_same ((Bears.of hd).sb (SB.new (ps:=[]) hl _) Ru.noList_enc)⟩
abbrev N_Duel___init__:List Str:=["self","book","grove","other_book","other"]
theorem sc_Duel___init__:FnScope N_Duel___init__ ["self","book","grove","other_book","other"] (defScope s_Duel___init__):=⟨rfl,rfl,rfl,by decide +kernel,rfl,by decide +kernel,by decide +kernel⟩
theorem ok_Duel___init__ {C_Duel C_Book C_NoKind C_Endless:Addr} (B:BI mg) (T_Duel:ClsF K C_Duel ["books","standing","hand"]) (G_check_hands:GotX P w K mg base "check_hands" ["book","grove","other_book","other"] (74) (spHands K C_Book C_NoKind C_Endless)) (F:Fun K "__init__" "Duel.__init__" s_Duel___init__ f fd):FnOk P w K mg base (L2.CX P w) (75) f fd ["self","book","grove","other_book","other"] (spDuelI K C_Duel C_Book C_NoKind C_Endless):=by
 refine F.okX sc_Duel___init__ (fun vs H Q E h=>?_) (fun cdv A outer s H vs Q E hr h=>?_)
 ·obtain ⟨x,dx,v1,w1,v2,w2,b1,b2,g1,g2,ns1,ns2,o,rfl,_⟩:=h
  rfl
 obtain ⟨x,dx,v1,w1,v2,w2,b1,b2,g1,g2,ns1,ns2,o,rfl,hx,h1,h2,hd,q⟩:=h
 have hun2:=hunT hr
 refine ⟨_,pss_cons (ps_expr (pe_gotS G_check_hands (hr.mono (by omega)) rfl (takes_of rfl rfl rfl rfl) (pa_cons (pv 1) (pa_cons (pv 2) (pa_cons (pv 3) (pa_cons (pv 4) pa_nil))))))
  (pss_cons (ps_fld (pv 0) (pe_tup (pa_cons (pv 1) (pa_cons (pv 3) pa_nil))) rfl)
  (pss_cons (ps_fld (pv 0) (pe_tup (pa_cons (pv 2) (pa_cons (pv 4) pa_nil))) rfl)
  (pss_one (ps_fld (pv 0) pe_int rfl)))),?_⟩
 refine ⟨_,rfl,_,rfl,_,rfl,_,rfl,v1,w1,v2,w2,b1,b2,g1,g2,ns1,ns2,o,rfl,h1,h2,hd,?_⟩
 cases hd with
 | k1 lo=>exact q
 | k2 a lo=>exact q
 | e1 a c lo=>exact q
 | e2 a c d lo=>exact q
 | fine n1 n2 e1 e2 =>
 intro H1 s1
 have hx1:=s1.keep _ _ hx nmn
 refine ⟨_,rfl,_,rfl,by show 2<=sizeLine; decide,fun T nT=>?_⟩
 have t2:=SB.new (ps:=[]) nT (.tup [v1,v2])
 have hx2:=t2.keep _ _ hx1 nmn
 have s2:=s1.trans t2
 generalize upd H1 T (.tup [v1,v2])=H2 at t2 hx2 s2
 refine ⟨_,rfl,x,_,dx,_,rfl,hx2,T_Duel.c,T_Duel.no _ (by simp),by decide,?_⟩
 have e1:putF (Str.ofString "books") (.ref T) []=[(Str.ofString "books",.ref T)]:=rfl
 rw [e1]
 have t3:SB [x] H2 (upd H2 x (.ins C_Duel dx [(Str.ofString "books",.ref T)])):=SB.setG hx2 (by simp) (fun _ z=>nomatch z) (fun _ _ z=>nomatch z) _
 have hx3:upd H2 x (.ins C_Duel dx [(Str.ofString "books",.ref T)]) x=some (.ins C_Duel dx [(Str.ofString "books",.ref T)]):=upd_same
 have s3:=(s2.nil (ps:=[x])).trans t3
 generalize upd H2 x (.ins C_Duel dx [(Str.ofString "books",.ref T)])=H3 at t3 hx3 s3
 refine ⟨_,rfl,_,rfl,by show 2<=sizeLine; decide,fun U nU=>?_⟩
 have t4:=SB.new (ps:=[]) nU (.tup [w1,w2])
 have hx4:=t4.keep _ _ hx3 nmn
 have s4:=s3.trans (t4.nil (ps:=[x]))
 generalize upd H3 U (.tup [w1,w2])=H4 at t4 hx4 s4
 refine ⟨_,rfl,x,_,dx,_,rfl,hx4,T_Duel.c,T_Duel.no _ (by simp),by simp,?_⟩
 have e2:putF (Str.ofString "standing") (.ref U) [(Str.ofString "books",.ref T)]=[(Str.ofString "books",.ref T),(Str.ofString "standing",.ref U)]:=rfl
 rw [e2]
 have t5:SB [x] H4 (upd H4 x (.ins C_Duel dx [(Str.ofString "books",.ref T),(Str.ofString "standing",.ref U)])):=SB.setG hx4 (by simp) (fun _ z=>nomatch z) (fun _ _ z=>nomatch z) _
 have hx5:upd H4 x (.ins C_Duel dx [(Str.ofString "books",.ref T),(Str.ofString "standing",.ref U)]) x=some (.ins C_Duel dx [(Str.ofString "books",.ref T),(Str.ofString "standing",.ref U)]):=upd_same
 have s5:=s4.trans t5
 generalize upd H4 x (.ins C_Duel dx [(Str.ofString "books",.ref T),(Str.ofString "standing",.ref U)])=H5 at t5 hx5 s5
 refine ⟨_,rfl,x,_,dx,_,rfl,hx5,T_Duel.c,T_Duel.no _ (by simp),by simp,?_⟩
 have e3:putF (Str.ofString "hand") (V.int 0) [(Str.ofString "books",.ref T),(Str.ofString "standing",.ref U)]=[(Str.ofString "books",.ref T),(Str.ofString "standing",.ref U),(Str.ofString "hand",.int 0)]:=rfl
 rw [e3]
 exact q _ (s5.trans (SB.setG hx5 (by simp) (fun _ z=>nomatch z) (fun _ _ z=>nomatch z) _))
abbrev N__law_refusal:List Str:=["_law_way","_law_made","_law_grove","_law_other","_law_far","e"]
theorem sc__law_refusal:FnScope N__law_refusal ["_law_way","_law_made","_law_grove","_law_other","_law_far"] (defScope s__law_refusal):=⟨rfl,rfl,rfl,by decide +kernel,rfl,by decide +kernel,by decide +kernel⟩
theorem ok__law_refusal {C_Book C_Duel:Addr} {c:Str->Addr} (B:BI mg) (T:ErrsM K mg c eC eN eK) (G_outlasts:GotX P w K mg base "outlasts" ["book","grove","other_book","other"] (75) (spOutl K C_Book (c "NoKind") (c "Endless"))) (G_Duel___init__:GotI P w K mg base "Duel" C_Duel ["self","book","grove","other_book","other"] (75) (spDuelI K C_Duel C_Book (c "NoKind") (c "Endless"))) (F:Fun K "_law_refusal" "_law_refusal" s__law_refusal f fd):FnOk P w K mg base CX0 (95) f fd ["_law_way","_law_made","_law_grove","_law_other","_law_far"] (spRefl57 K C_Book):=by
 refine F.ok sc__law_refusal (fun vs H Q E h=>?_) (fun cdv A outer s H vs Q E hr h=>?_)
 ·obtain ⟨way,v1,w1,v2,w2,b1,b2,g1,g2,ns1,ns2,o,rfl,_⟩:=h
  rfl
 obtain ⟨way,v1,w1,v2,w2,b1,b2,g1,g2,ns1,ns2,o,rfl,h1,h2,hd,hk,q⟩:=h
 have hun2:=hunT hr
 refine ⟨_,pss_cons (L2.ps_try_manyN (l:=[(.ref (c "NoKind"),some 5,fun a cls d=>(tRet (tTup (tCons (tC (.str "kind")) (tCons (tXfg K a cls d "kind" (tVar 5)) tNil))))),(.ref (c "Endless"),some 5,fun a cls d=>(tRet (tTup (tCons (tC (.str "endless")) (tCons (tXfg K a cls d "kind" (tVar 5)) tNil))))),(.ref (c "FellError"),none,fun a cls d=>(tRet (tTup (tCons (tC (.str "other")) (tCons (tC (.str "")) tNil)))))]) (tb:=fun W=>(tIfS (tTest (tOp rEq (tVar 0) (tC (.int 0)))) (tDrop (tCallS (spOutl K C_Book (c "NoKind") (c "Endless")) (WE W) (tCons (tVar 1) (tCons (tVar 2) (tCons (tVar 3) (tCons (tVar 4) tNil)))))) (tDrop (tMakeZ C_Duel (spDuelI K C_Duel C_Book (c "NoKind") (c "Endless")) (WE W) (tCons (tVar 1) (tCons (tVar 2) (tCons (tVar 3) (tCons (tVar 4) tNil)))))))) (Wout:=fun _ _ _ _=>False) rfl rfl sc__law_refusal.nd takes0
   (fun W pn xe tk _=>by exact (pss_one (ps_if (pt_cmpR op_eq (pv 0) pe_int (nomark _)) (pss_one (ps_expr (pe_gotS G_outlasts (hr.mono (by omega)) rfl tk (pa_cons (pv 1) (pa_cons (pv 2) (pa_cons (pv 3) (pa_cons (pv 4) pa_nil))))))) (pss_one (ps_expr (pe_gotIS G_Duel___init__ (hr.mono (by omega)) rfl tk (pa_cons (pv 1) (pa_cons (pv 2) (pa_cons (pv 3) (pa_cons (pv 4) pa_nil))))))))))
   (.named rfl rfl ⟨rfl,by decide,Or.inl (T.glo "NoKind" (.tail _ (.tail _ (.head _))))⟩ (fun a oe cls d pn hz hf=>by exact (pss_one (ps_ret (pe_tup (pa_cons pe_str (pa_cons (pe_xfg (.head _) hz hf (pv 5)) pa_nil)))))) (.named rfl rfl ⟨rfl,by decide,Or.inl (T.glo "Endless" (.tail _ (.tail _ (.tail _ (.head _)))))⟩ (fun a oe cls d pn hz hf=>by exact (pss_one (ps_ret (pe_tup (pa_cons pe_str (pa_cons (pe_xfg (.head _) hz hf (pv 5)) pa_nil)))))) (.plain ⟨rfl,by decide,Or.inl T.FellError⟩ (fun a oe cls d pn hz hf=>by exact (pss_one (ps_ret (pe_tup (pa_cons pe_str (pa_cons pe_str pa_nil)))))) .nil))))
  (pss_one (ps_ret (pe_tup (pa_cons pe_str (pa_cons pe_str pa_nil))))),?_⟩
 have szl:=sizeLine_eq
 refine ⟨_,rfl,rfl,_,rfl,?_⟩
 by_cases hw:V.int way=V.int 0
 ·rw [decide_eq_true hw]
  refine iteT ⟨_,rfl,_,rfl,_,rfl,_,rfl,v1,w1,v2,w2,b1,b2,g1,g2,ns1,ns2,o,rfl,h1,h2,hd,?_⟩
  cases o with
  | kind n =>
   intro d H1 s1 nd hd1
   refine ⟨true,(T.exo "NoKind" (.head _) "NoKind" (by decide +kernel)).trans (by rw [decide_eq_true rfl]),fun _ a ha=>?_,fun z=>nomatch z⟩
   refine ⟨_,rfl,_,d,_,.str n,rfl,rfl,T.exc _ (.head _),T.nok _ (.head _),rfl,hd1,rfl,?_⟩
   exact ⟨by show 2<=sizeLine; decide,fun Z nZ=>q Z _ (s1.trans (SB.new nZ _)) (SqT.of upd_same)⟩
  | endl n =>
   intro d H1 s1 nd hd1
   refine ⟨false,(T.exo "Endless" (.tail _ (.head _)) "NoKind" (by decide +kernel)).trans (by rw [decide_eq_false (by decide +kernel)]),(fun z=>nomatch z),fun _=>⟨true,(T.exo "Endless" (.tail _ (.head _)) "Endless" (by decide +kernel)).trans (by rw [decide_eq_true rfl]),fun _ a ha=>?_,fun z=>nomatch z⟩⟩
   refine ⟨_,rfl,_,d,_,.str n,rfl,rfl,T.exc _ (.tail _ (.head _)),T.nok _ (.tail _ (.head _)),rfl,hd1,rfl,?_⟩
   exact ⟨by show 2<=sizeLine; decide,fun Z nZ=>q Z _ (s1.trans (SB.new nZ _)) (SqT.of upd_same)⟩
  | fine =>
   obtain ⟨ρ1,ρ2,r1,r2⟩:=hk rfl
   refine ⟨ρ1,ρ2,r1,r2,fun H1 s1=>?_⟩
   exact ⟨by show 2<=sizeLine; decide,fun Z nZ=>q Z _ (s1.trans (SB.new nZ _)) (SqT.of upd_same)⟩
 ·rw [decide_eq_false hw]
  refine iteF ⟨_,rfl,_,rfl,_,rfl,_,rfl,fun y dx ny ndx ne=>?_⟩
  have t1:=SB.new (ps:=[]) ndx (.own y)
  have ny1:upd H dx (.own y) y=none:=by rw [upd_ne ne.symm]; exact ny
  have t2:=SB.new (ps:=[]) ny1 (.ins C_Duel dx [])
  have s12:=t1.trans t2
  refine ⟨y,dx,v1,w1,v2,w2,b1,b2,g1,g2,ns1,ns2,o,rfl,upd_same,h1.sb0 s12,h2.sb0 s12,hd,?_⟩
  cases o with
  | kind n =>
   intro d H1 s1 nd hd1
   have s1:=s12.trans s1
   refine ⟨true,(T.exo "NoKind" (.head _) "NoKind" (by decide +kernel)).trans (by rw [decide_eq_true rfl]),fun _ a ha=>?_,fun z=>nomatch z⟩
   refine ⟨_,rfl,_,d,_,.str n,rfl,rfl,T.exc _ (.head _),T.nok _ (.head _),rfl,hd1,rfl,?_⟩
   exact ⟨by show 2<=sizeLine; decide,fun Z nZ=>q Z _ (s1.trans (SB.new nZ _)) (SqT.of upd_same)⟩
  | endl n =>
   intro d H1 s1 nd hd1
   have s1:=s12.trans s1
   refine ⟨false,(T.exo "Endless" (.tail _ (.head _)) "NoKind" (by decide +kernel)).trans (by rw [decide_eq_false (by decide +kernel)]),(fun z=>nomatch z),fun _=>⟨true,(T.exo "Endless" (.tail _ (.head _)) "Endless" (by decide +kernel)).trans (by rw [decide_eq_true rfl]),fun _ a ha=>?_,fun z=>nomatch z⟩⟩
   refine ⟨_,rfl,_,d,_,.str n,rfl,rfl,T.exc _ (.tail _ (.head _)),T.nok _ (.tail _ (.head _)),rfl,hd1,rfl,?_⟩
   exact ⟨by show 2<=sizeLine; decide,fun Z nZ=>q Z _ (s1.trans (SB.new nZ _)) (SqT.of upd_same)⟩
  | fine =>
   intro H1 s1
   have s1:SB [] H H1:=((s12.nil (ps:=[y])).trans s1).drop ny
   refine ⟨rfl,?_⟩
   exact ⟨by show 2<=sizeLine; decide,fun Z nZ=>q Z _ (s1.trans (SB.new nZ _)) (SqT.of upd_same)⟩
abbrev N__law_drawn_book:List Str:=["_law_pot_here","_law_most","_law_told","_law_names_here","_law_book","_law_k","_law_name","_law_rules","_law_spreads","_law_turn","_law_parts","_law_each","_law_once"]
theorem sc__law_drawn_book:FnScope N__law_drawn_book ["_law_pot_here","_law_most","_law_told"] (defScope s__law_drawn_book):=⟨rfl,rfl,rfl,by decide +kernel,rfl,by decide +kernel,by decide +kernel⟩
theorem ok__law_drawn_book (B:BI mg) (G__law_names:Got P w K mg base "_law_names" ["_law_pot_here","_law_many"] (2) (spNamesR K)) (G__law_take:Got P w K mg base "_law_take" ["_law_pot_here","_law_many"] (1) (spTakeR)) (G__law_drawn_grove:Got P w K mg base "_law_drawn_grove" ["_law_pot_here","_law_names_here","_law_parts","_law_great"] (14) (spGroveR K 13)) (F:Fun K "_law_drawn_book" "_law_drawn_book" s__law_drawn_book f fd):FnOk P w K mg base CX0 (16) f fd ["_law_pot_here","_law_most","_law_told"] (spBook57 K):=by
 refine F.ok sc__law_drawn_book (fun vs H Q E h=>?_) (fun cdv A outer s H vs Q E hr h=>?_)
 ·obtain ⟨p,cl,t,m,ts,rfl,_⟩:=h
  rfl
 obtain ⟨p,cl,t,m,ts,rfl,hp,m1,m6,ht,tp,tnd,tok,tlm,q⟩:=h
 have hun2:=hunT hr
 refine ⟨_,pss_cons (ps_set (i:=3) sc__law_drawn_book.nd rfl (.inl rfl) (pe_got G__law_names (hr.mono (by omega)) rfl (pa_cons (pv 0) (pa_cons (pe_op op_add pe_int (pe_got G__law_take (hr.mono (by omega)) rfl (pa_cons (pv 0) (pa_cons (pv 1) pa_nil)))) pa_nil))))
  (pss_cons (ps_if (PW.pt (pw_and (pt_cmpR (op_neD (by show A.units+3+64 < cLine; omega)) (pv 2) (pe_lst pa_nil) (nomark _)) (pw_and1 (pt_cmpR op_eq (pe_got G__law_take (hr.mono (by omega)) rfl (pa_cons (pv 0) (pa_cons pe_int pa_nil))) pe_int (nomark _))))) (pss_one (ps_set (i:=3) sc__law_drawn_book.nd rfl (.inl rfl) (pe_callTy call_list_of rfl B.list boot_list (pa_cons (pv 2) pa_nil)))) pss_nil)
  (pss_cons (ps_set (i:=4) sc__law_drawn_book.nd rfl (.inl rfl) pe_dnewK)
  (pss_cons (ps_for PassesOwn.never rfl (pi_enum rfl B.enumerate (pa_cons (pv 3) pa_nil)) (pg_tup rfl (pgs_cons (pg_name (i:=5) sc__law_drawn_book.nd rfl (.inl rfl)) (pgs_cons (pg_name (i:=6) sc__law_drawn_book.nd rfl (.inl rfl)) pgs_nil)))
   (pss_cons (ps_set (i:=7) sc__law_drawn_book.nd rfl (.inl rfl) (pe_lst pa_nil))
  (pss_cons (ps_set (i:=8) sc__law_drawn_book.nd rfl (.inl rfl) (pe_cmpR op_eq (pe_got G__law_take (hr.mono (by omega)) rfl (pa_cons (pv 0) (pa_cons pe_int pa_nil))) pe_int (nomark _)))
  (pss_cons (ps_for PassesOwn.never rfl (pi_range1 rfl B.range (pa_cons (pe_ix ix_list (pe_lst (pa_cons pe_int (pa_cons pe_int (pa_cons pe_int (pa_cons pe_int (pa_cons pe_int pa_nil)))))) (pe_got G__law_take (hr.mono (by omega)) rfl (pa_cons (pv 0) (pa_cons pe_int pa_nil))) (fun _ _=>rfl)) pa_nil)) (pg_name (i:=9) sc__law_drawn_book.nd rfl (.inl rfl))
   (pss_cons (ps_set (i:=10) sc__law_drawn_book.nd rfl (.inl rfl) (pe_got G__law_take (hr.mono (by omega)) rfl (pa_cons (pv 0) (pa_cons pe_int pa_nil))))
  (pss_cons (ps_set (i:=11) sc__law_drawn_book.nd rfl (.inl rfl) (pe_got G__law_take (hr.mono (by omega)) rfl (pa_cons (pv 0) (pa_cons (pe_op op_add (pv 10) pe_int) pa_nil))))
  (pss_cons (ps_set (i:=12) sc__law_drawn_book.nd rfl (.inl rfl) (pe_got G__law_drawn_grove (hr.mono (by omega)) rfl (pa_cons (pv 0) (pa_cons (pe_slice sl_list (pv 3) po_none (po_some (pv 5))) (pa_cons (pe_op op_sub (pv 10) (pv 11)) (pa_cons (pe_op op_mul pe_int (pe_op op_pow pe_int pe_int)) pa_nil))))))
  (pss_one (ps_expr (pe_bm PySem.F.plainAttrs_list PySem.F.slot_list_append PySem.F.type_list_append mt_append (pv 7) (pa_cons (pe_tup (pa_cons (pv 12) (pa_cons (pe_got G__law_drawn_grove (hr.mono (by omega)) rfl (pa_cons (pv 0) (pa_cons (pe_slice sl_list (pv 3) po_none (po_some (pv 5))) (pa_cons (pv 11) (pa_cons (pe_op op_mul pe_int (pe_op op_pow pe_int pe_int)) pa_nil))))) pa_nil))) pa_nil))))))))
  (pss_one (ps_dput (by show A.units+3+1 < cLine; omega) (pv 4) (pv 6) (pe_tup (pa_cons (pv 8) (pa_cons (pv 7) pa_nil))) rfl))))))
  (pss_one (ps_ret (pv 4)))))),?_⟩
 have szl:=sizeLine_eq
 refine ⟨_,rfl,_,rfl,_,rfl,p,cl,_,rfl,hp,by omega,by omega,fun r1 H1 r10 r1m s1 hp1=>?_⟩
 obtain ⟨mn,rfl⟩:∃ u:Nat,r1=(u:Int):=⟨r1.toNat,by omega⟩
 have em:(1:Int)+(mn:Int)=((1+mn:Nat):Int):=by omega
 refine ⟨_,_,rfl,rfl,p,cl,1+mn,(by show [V.ref p,V.int ((1:Int)+(mn:Int))]=_; rw [em]),hp1,by omega,by omega,fun nl0 ks0 H2 s2 hp2 nnl hn2 kl0 knd0 kok0=>?_⟩
 refine nameI ?_
 have nlp0:nl0 ≠ p:=fun z=>hp1.ne nnl z.symm
 have nlc0:nl0 ≠ cl:=fun z=>hp1.nc nnl z.symm
 have s02:=s1.trans s2
 refine seq_via (fun σ' H'=>∃ (nl:Addr) (ks:List Str),σ'=[some (.ref p),some (.int (m:Int)),some (.ref t),some (.ref nl),none,none,none,none,none,none,none,none,none]/\SB [p] H H'/\PotC H' p cl/\H' nl=some (.lst (ks.map V.str))/\1<=ks.length/\ks.length<=m/\ks.Nodup/\(∀ k ∈ ks,NameOk k)/\nl ≠ p/\nl ≠ cl) (fun nx hnx=>?_) (fun σ' H2 h=>?_)
 ·have ht2:=s02.keep _ _ ht (by simpa using tp)
  refine ⟨_,rfl,by show 0<=sizeLine; decide,fun z nz=>?_⟩
  have t3:=SB.new (ps:=[]) nz (.lst [])
  have ht3:=t3.keep _ _ ht2 nmn
  have hn3:=t3.keep _ _ hn2 nmn
  have hp3:=hp2.sb t3
  have s03:=s02.trans t3.nil
  have hz3:upd H2 z (.lst []) z=some (.lst []):=upd_same
  generalize upd H2 z (.lst [])=H3 at t3 ht3 hn3 hp3 s03 hz3
  refine ⟨.list (ts.map PyData.str),.list [],.lst (SqL.of ht3) (strs_dp K H3 ts),.lst (SqL.of hz3) .nil,strs_shaped tok,by decide +kernel,?_⟩
  rw [show PyData.eqv (.list (ts.map PyData.str)) (.list [])=decide (ts=[]) by cases ts <;> simp [PyData.eqv,PyData.eqvAll]]
  refine ⟨_,rfl,?_⟩
  by_cases te:ts=[]
  ·rw [decide_eq_true te]
   exact iteF (hnx _ _ ⟨nl0,ks0,rfl,s03,hp3,hn3,by omega,by omega,knd0,kok0,nlp0,nlc0⟩)
  rw [decide_eq_false te]
  refine iteT ⟨_,rfl,p,cl,2,rfl,hp3,by decide,by decide,fun r4 H4 _ _ s4 hp4=>?_⟩
  have s04:=s03.trans s4
  have ht4:=s4.keep _ _ ht3 (by simpa using tp)
  have hn4:=s4.keep _ _ hn3 (by simpa using nlp0)
  refine ⟨rfl,_,rfl,?_⟩
  cases decide (V.int r4=V.int 1) with
  | false=>exact iteF (hnx _ _ ⟨nl0,ks0,rfl,s04,hp4,hn4,by omega,by omega,knd0,kok0,nlp0,nlc0⟩)
  | true =>
  refine iteT ⟨_,rfl,t,_,rfl,.inl (SqL.of ht4),fun l nl=>?_⟩
  have t5:=SB.new (ps:=[]) nl (.lst (ts.map V.str))
  have tl1:1<=ts.length:=List.length_pos_iff.mpr te
  exact hnx _ _ ⟨l,ts,rfl,s04.trans t5.nil,hp4.sb t5,upd_same,tl1,tlm,tnd,tok,fun z=>hp4.ne nl z.symm,fun z=>hp4.nc nl z.symm⟩
 clear hp2 hn2 s02 s1 s2 hp1
 obtain ⟨nl,ks,rfl,s02,hp2,hn2,kl1,klm,knd,kok,nlp,nlc⟩:=h
 intro D nD
 have t3:=SB.new (ps:=[]) nD (.dK [])
 have hD3:upd H2 D (.dK []) D=some (.dK (nKV (Bk.names []) [])):=upd_same
 have hn3:=t3.keep _ _ hn2 nmn
 have hp3:=hp2.sb t3
 have pD:=hp2.ne nD
 have cD:=hp2.nc nD
 have nlD:nl ≠ D:=ne_of_none hn2 nD
 have s03:SB [p] H (upd H2 D (.dK [])):=s02.trans t3.nil
 have nD0:H D=none:=s02.dom _ nD
 generalize upd H2 D (.dK [])=H3 at t3 hD3 hn3 hp3 s03
 refine nameI ?_
 refine ⟨_,rfl,nl,_,rfl,SqL.of hn3,?_⟩
 refine for_it (walk_enum (K:=K) (a:=nl) (xs:=ks.map V.str)) (fun i σ H4=>SB [p,D] H3 H4/\PotC H4 p cl/\∃ (us:List V) (b:Bk) (o4 o5 o6 o7 o8 o9 o10 o11:Option V),σ=[some (.ref p),some (.int (m:Int)),some (.ref t),some (.ref nl),some (.ref D),o4,o5,o6,o7,o8,o9,o10,o11]/\H4 D=some (.dK (nKV b.names us))/\PairedL (KvN K H4 H) us b/\b.names=ks.take i/\(∀ k ∈ b,k.rs.length<=4/\∀ r ∈ k.rs,RuOk r/\r.1.parts+r.2.parts<=3)/\∀ (j:Nat) (k:Kd),b[j]?=some k->∀ r ∈ k.rs,∀ x ∈ Ru.within r,x.1.1 ∈ ks.take j)
  ⟨SB.refl,hp3,[],[],none,none,none,none,none,none,none,none,rfl,hD3,.nil,by simp,(fun k hk=>nomatch hk),(fun j k h=>by simp at h)⟩ (fun i σ H4 hi h=>h.1.sqL (by simp [nlp,nlD]) (SqL.of hn3)) (fun i x σ H4 H' hi h y=>?_) (fun σ H4 h=>?_)
 ·obtain ⟨s4,hp4,us,b,o4,o5,o6,o7,o8,o9,o10,o11,rfl,hD4,hpl,bn,good,ahd⟩:=h
  obtain ⟨T,x1,y1,rfl,hT,rfl,ex,ey⟩:=y
  have ex:some (V.int (i:Nat))=some x1:=ex
  cases ex
  have ey:(ks.map V.str)[i]?=some y1:=ey
  rw [List.getElem?_map] at ey
  rw [List.length_map] at hi
  obtain ⟨nm,en,rfl⟩:=Option.map_eq_some_iff.mp ey
  have hn4:=s4.keep _ _ hn3 (by simp [nlp,nlD])
  have t5:=SB.new (ps:=[]) hT (.tup [.int (i:Nat),.str nm])
  have hT5:upd H4 T (.tup [.int (i:Nat),.str nm]) T=some (.tup [.int (i:Nat),.str nm]):=upd_same
  have hp5:=hp4.sb t5
  have hn5:=t5.keep _ _ hn4 nmn
  have hD5:=t5.keep _ _ hD4 nmn
  generalize upd H4 T (.tup [.int (i:Nat),.str nm])=H5 at t5 hT5 hp5 hn5 hD5
  refine ⟨T,_,rfl,SqT.of hT5,rfl,_,_,rfl,_,_,rfl,rfl,?_⟩
  refine ⟨by show 0<=sizeLine; decide,fun R nR=>?_⟩
  have t6:=SB.new (ps:=[]) nR (.lst [])
  have hR6:upd H5 R (.lst []) R=some (.lst []):=upd_same
  have hp6:=hp5.sb t6
  have hn6:=t6.keep _ _ hn5 nmn
  have hD6:=t6.keep _ _ hD5 nmn
  have pR:=hp5.ne nR
  have cR:=hp5.nc nR
  have nlR:nl ≠ R:=ne_of_none hn5 nR
  have DR:D ≠ R:=ne_of_none hD5 nR
  generalize upd H5 R (.lst [])=H6 at t6 hR6 hp6 hn6 hD6
  refine nameI ?_
  refine ⟨_,rfl,p,cl,2,rfl,hp6,by decide,by decide,fun r7 H7 _ _ s7 hp7=>?_⟩
  refine ⟨rfl,?_⟩
  generalize decide (V.int r7=V.int 1)=wd
  refine nameI ?_
  refine ⟨by show 5<=sizeLine; decide,fun L nL=>?_⟩
  have t8:=SB.new (ps:=[]) nL (.lst [.int 0,.int 1,.int 1,.int 2,.int 3])
  have hL8:upd H7 L (.lst [.int 0,.int 1,.int 1,.int 2,.int 3]) L=some (.lst [.int 0,.int 1,.int 1,.int 2,.int 3]):=upd_same
  have hp8:=hp7.sb t8
  have Lp:=hp7.ne nL
  generalize upd H7 L (.lst [.int 0,.int 1,.int 1,.int 2,.int 3])=H8 at t8 hL8 hp8
  refine ⟨_,rfl,p,cl,5,rfl,hp8,by decide,by decide,fun r9 H9 r90 r95 s9 hp9=>?_⟩
  obtain ⟨ct,ect,ct3⟩:∃ ct:Nat,atI [V.int 0,.int 1,.int 1,.int 2,.int 3] r9=some (.int (ct:Int))/\ct<=3:=by
   rcases (by omega:r9=0\/r9=1\/r9=2\/r9=3\/r9=4) with h | h | h | h | h <;> subst h
   ·exact ⟨0,rfl,by omega⟩
   ·exact ⟨1,rfl,by omega⟩
   ·exact ⟨1,rfl,by omega⟩
   ·exact ⟨2,rfl,by omega⟩
   ·exact ⟨3,rfl,by omega⟩
  have s69:SB [p] H6 H9:=(s7.trans t8.nil).trans s9
  refine ⟨L,_,_,_,rfl,rfl,SqL.of (s9.keep _ _ hL8 (by simpa using fun z:L=p=>Lp z.symm)),ect,(ct:Int),rfl,by omega,by omega,?_⟩
  rw [Int.toNat_natCast]
  have hR9:=s69.keep _ _ hR6 (by simpa using fun z:R=p=>pR z.symm)
  refine for_it walk_range (fun j σ Ha=>SB [R,p] H9 Ha/\PotC Ha p cl/\∃ (vs:List V) (rs:List Ru) (o8 o9 o10 o11:Option V),σ=[some (.ref p),some (.int (m:Int)),some (.ref t),some (.ref nl),some (.ref D),some (.int (i:Int)),some (.str nm),some (.ref R),some (.bl wd),o8,o9,o10,o11]/\Ha R=some (.lst vs)/\Bears K Ha Ru.enc vs rs/\rs.length<=j/\∀ r ∈ rs,RuOk r/\r.1.parts+r.2.parts<=3/\∀ x ∈ Ru.within r,x.1.1 ∈ ks.take i)
   ⟨SB.refl,hp9,[],[],_,_,_,_,rfl,hR9,.nil,Nat.le_refl _,fun r hr=>nomatch hr⟩ (fun _ _ _ _ _=>trivial) (fun j x σ Ha H' hj h8 y=>?_) (fun σ Ha h8=>?_)
  ·obtain ⟨sa,hpa,vs,rs,o8,o9,o10,o11,rfl,hRa,hba,rl,hrs⟩:=h8
   obtain ⟨rfl,rfl⟩:=y
   have hna:H' nl=some (.lst (ks.map V.str)):=sa.keep _ _ (s69.keep _ _ hn6 (by simpa using nlp)) (by simp [nlR,nlp])
   refine nameL86 ?_
   refine ⟨_,rfl,p,cl,4,rfl,hpa,by decide,by decide,fun rm Hb rm0 rm4 sb hpb=>?_⟩
   obtain ⟨pm,rfl⟩:∃ u:Nat,rm=(u:Int):=⟨rm.toNat,by omega⟩
   refine nameI ?_
   refine ⟨_,rfl,_,rfl,_,_,rfl,rfl,p,cl,(pm:Int)+1,rfl,hpb,by omega,by omega,fun re Hc re0 rem sc hpc=>?_⟩
   obtain ⟨eh,rfl⟩:∃ u:Nat,re=(u:Int):=⟨re.toNat,by omega⟩
   refine nameI ?_
   have sac:SB [p] H' Hc:=sb.trans sc
   have hnc:=sac.keep _ _ hna (by simpa using nlp)
   have e8:(3:Int)*10 ^ (8:Int).toNat=300000000:=by decide
   have kt:∀ x ∈ ks.take i,NameOk x:=fun x hx=>kok x (List.mem_of_mem_take hx)
   have ktl:(ks.take i).length<=8:=by rw [List.length_take]; omega
   refine ⟨_,rfl,_,rfl,_,rfl,_,rfl,nl,_,rfl,SqL.of hnc,fun S nS=>?_⟩
   have t10:=SB.new (ps:=[]) nS (.lst (cutV (ks.map V.str) none (some (i:Int))))
   have hS:upd Hc S (.lst (cutV (ks.map V.str) none (some (i:Int)))) S=some (.lst ((ks.take i).map V.str)):=by rw [upd_same,cutTake,List.map_take]
   have hp10:=hpc.sb t10
   have Sp:S ≠ p:=fun z=>hpc.ne nS z.symm
   have hn10:=t10.keep _ _ hnc nmn
   generalize upd Hc S (.lst (cutV (ks.map V.str) none (some (i:Int))))=Hd at t10 hS hp10 hn10
   have emo:(pm:Int)-(eh:Int)=((pm-eh:Nat):Int):=by omega
   refine ⟨_,rfl,_,rfl,_,_,rfl,rfl,10,8,rfl,rfl,⟨by decide,by decide⟩,_,_,rfl,rfl,.inl ⟨by decide,by decide⟩,p,S,cl,ks.take i,pm-eh,300000000,(by show [V.ref p,V.ref S,V.int ((pm:Int)-(eh:Int)),V.int (3*10 ^ (8:Int).toNat)]=_; rw [emo,e8]),hp10,⟨hS,Sp,ktl,kt⟩,by omega,by omega,by decide,by decide,fun v1 g1 He se hpe hg1 ok1 pt1 dp1 nm1 _=>?_⟩
   refine nameI ?_
   have sae:SB [p] H' He:=(sac.trans t10.nil).trans se
   have hRe:=sae.keep _ _ hRa (by simpa using fun z:R=p=>pR z.symm)
   have hne:=sae.keep _ _ hna (by simpa using nlp)
   refine ⟨_,rfl,.inl ⟨rfl,_,SqL.of hRe⟩,_,rfl,_,rfl,_,rfl,_,rfl,_,rfl,nl,_,rfl,SqL.of hne,fun S2 nS2=>?_⟩
   have t11:=SB.new (ps:=[]) nS2 (.lst (cutV (ks.map V.str) none (some (i:Int))))
   have hS2:upd He S2 (.lst (cutV (ks.map V.str) none (some (i:Int)))) S2=some (.lst ((ks.take i).map V.str)):=by rw [upd_same,cutTake,List.map_take]
   have hp11:=hpe.sb t11
   have S2p:S2 ≠ p:=fun z=>hpe.ne nS2 z.symm
   have hR11:=t11.keep _ _ hRe nmn
   generalize upd He S2 (.lst (cutV (ks.map V.str) none (some (i:Int))))=Hf at t11 hS2 hp11 hR11
   refine ⟨_,rfl,10,8,rfl,rfl,⟨by decide,by decide⟩,_,_,rfl,rfl,.inl ⟨by decide,by decide⟩,p,S2,cl,ks.take i,eh,300000000,(by show [V.ref p,V.ref S2,V.int (eh:Int),V.int (3*10 ^ (8:Int).toNat)]=_; rw [e8]),hp11,⟨hS2,S2p,ktl,kt⟩,by omega,by omega,by decide,by decide,fun v2 g2 Hg sg hpg hg2 ok2 pt2 dp2 nm2 _=>?_⟩
   refine ⟨by show 2<=sizeLine; decide,fun T2 nT2=>?_⟩
   have sag:SB [p] H' Hg:=(sae.trans t11.nil).trans sg
   have seg:SB [p] He Hg:=t11.nil.trans sg
   have hRg:=sag.keep _ _ hRa (by simpa using fun z:R=p=>pR z.symm)
   have t14:=SB.new (ps:=[]) nT2 (.tup [v1,v2])
   have hT14:SqT K (upd Hg T2 (.tup [v1,v2])) T2 [v1,v2]:=SqT.of upd_same
   have hR14:=t14.keep _ _ hRg nmn
   have hb14:=(hba.sb sag Ru.noList_enc).sb t14 Ru.noList_enc
   have hg1':=GA.sb (GA.sb hg1 seg) t14
   have hg2':=GA.sb hg2 t14
   have hp14:=hpg.sb t14
   generalize upd Hg T2 (.tup [v1,v2])=Hh at t14 hT14 hR14 hb14 hg1' hg2' hp14
   have vl:=hb14.length
   refine ⟨R,_,_,rfl,rfl,hR14,by omega,?_⟩
   have t15:=SB.set (ps:=[R]) hR14 (by simp) (.lst (vs++[.ref T2]))
   refine ⟨sa.trans (((sag.trans t14.nil).mono (by simp)).trans (t15.mono (by simp))),hp14.keep t15 (by simpa using pR) (by simpa using cR),vs++[.ref T2],rs++[(g1,g2)],_,_,_,_,rfl,upd_same,?_,by rw [List.length_append,List.length_singleton]; omega,fun r hr=>?_⟩
   ·exact (hb14.sb t15 Ru.noList_enc).append (.cons (.tup (t15.sqT hT14) (.cons (GA.sb hg1' t15) (.cons (GA.sb hg2' t15) .nil))) .nil)
   ·rcases List.mem_append.mp hr with hr | hr
    ·exact hrs r hr
    ·rw [List.mem_singleton.mp hr]
     refine ⟨⟨ok1.mono (by omega),ok2.mono (by omega),by show g1.parts+g2.parts<=4; omega⟩,by show g1.parts+g2.parts<=3; omega,fun x hx=>?_⟩
     rcases List.mem_append.mp hx with hx | hx
     ·exact nm1 x hx
     ·exact nm2 x hx
  obtain ⟨sa,hpa,vs,rs,o8,o9,o10,o11,rfl,hRa,hba,rl,hrs⟩:=h8
  have s6a:SB [R,p] H6 Ha:=(s69.mono (by simp)).trans sa
  have s5a:SB [p] H5 Ha:=((t6.nil (ps:=[R,p])).trans s6a).drop nR
  have hDa:=s5a.keep _ _ hD5 (by simpa using fun z:D=p=>pD z.symm)
  refine ⟨_,rfl,_,rfl,by show 2<=sizeLine; decide,fun T3 nT3=>?_⟩
  have t16:=SB.new (ps:=[]) nT3 (.tup [.bl wd,.ref R])
  have hT16:SqT K (upd Ha T3 (.tup [.bl wd,.ref R])) T3 [.bl wd,.ref R]:=SqT.of upd_same
  have hDb:=t16.keep _ _ hDa nmn
  have hRb:=t16.keep _ _ hRa nmn
  have hbb:=hba.sb t16 Ru.noList_enc
  have hpb:=hpa.sb t16
  have s4b:SB [p] H4 (upd Ha T3 (.tup [.bl wd,.ref R])):=((t5.nil (ps:=[p])).trans s5a).trans t16.nil
  generalize upd Ha T3 (.tup [.bl wd,.ref R])=Hb at t16 hT16 hDb hRb hbb hpb s4b
  have ul:=hpl.length
  have bl:b.names.length=i:=by rw [bn,List.length_take]; omega
  have bl2:b.length=i:=by rw [<- bl]; exact (List.length_map ..).symm
  have fresh:nm ∉ b.names:=fun z=>by
   rw [bn] at z
   obtain ⟨j,hj,ej⟩:=List.getElem_of_mem z
   rw [List.getElem_take] at ej
   rw [List.length_take] at hj
   obtain ⟨hi2,e2⟩:=List.getElem_of_getElem? en
   exact List.pairwise_iff_getElem.mp knd j i (by omega) hi2 (by omega) (ej.trans e2.symm)
  have zl:(nKV b.names us).length < sizeLine:=by
   show (List.zipWith _ _ _).length < _
   rw [List.length_zipWith]; omega
  refine ⟨_,rfl,_,rfl,D,_,rfl,DPut.k (k:=Sum.inr nm) hDb zl,?_⟩
  have t17:=SB.setD (ps:=[D]) hDb (by simp) (.dK (putK (nKV b.names us) (Sum.inr nm) (.ref T3)))
  have hDc:upd Hb D (.dK (putK (nKV b.names us) (Sum.inr nm) (.ref T3))) D=some (.dK (nKV (Bk.names (b++[⟨nm,wd,rs⟩])) (us++[.ref T3]))):=by
   rw [upd_same,nKV_put (by rw [ul,bl2,bl]) fresh]
   show _=some (HO.dK (nKV (List.map _ (b++[_])) _))
   rw [List.map_append]; rfl
  have RD:R ≠ D:=fun z=>DR z.symm
  have hp17:=hpb.keep t17 (by simpa using pD) (by simpa using cD)
  have noD:NoL Hb [D]:=NoL.one hDb
  have nop:NoL H4 [p]:=by obtain ⟨kvs,h⟩:=hp4.isD; exact NoL.one h
  refine ⟨s4.trans ((s4b.mono (by simp)).trans (t17.mono (by simp))),hp17,us++[.ref T3],b++[⟨nm,wd,rs⟩],_,_,_,_,_,_,_,_,rfl,hDc,?_,?_,fun k hk=>?_,fun j k hjk=>?_⟩
  ·refine (hpl.mono fun v k h=>(h.sb s4b nop).sb t17 noD).append (.cons ⟨T3,R,vs,rfl,t17.sqT hT16,t17.keep _ _ hRb (by simpa using RD),hbb.sb t17 Ru.noList_enc,s03.dom _ (s4.dom _ (t5.dom _ nR))⟩ .nil)
  ·rw [Bk.names,List.map_append,List.take_add_one,en]
   show Bk.names b++[nm]=_
   rw [bn]; rfl
  ·rcases List.mem_append.mp hk with hk | hk
   ·exact good k hk
   ·rw [List.mem_singleton.mp hk]; exact ⟨by show rs.length<=4; omega,fun r hr=>⟨(hrs r hr).1,(hrs r hr).2.1⟩⟩
  ·rcases Nat.lt_or_ge j b.length with h | h
   ·rw [List.getElem?_append_left h] at hjk
    exact ahd j k hjk
   ·rw [List.getElem?_append_right h] at hjk
    have hj0:j-b.length=0:=by
     rcases Nat.eq_zero_or_pos (j-b.length) with z | z
     ·exact z
     ·rw [List.getElem?_eq_none (by rw [List.length_singleton]; omega)] at hjk; cases hjk
    rw [hj0] at hjk
    cases hjk
    have:j=i:=by omega
    subst this
    exact fun r hr=>(hrs r hr).2.2
 ·obtain ⟨s4,hp4,us,b,o4,o5,o6,o7,o8,o9,o10,o11,rfl,hD4,hpl,bn,good,ahd⟩:=h
  rw [List.length_map,List.take_length] at bn
  have bl:b.length=ks.length:=by rw [<- bn]; exact (List.length_map ..).symm
  have hmem:∀ k ∈ b,k.n ∈ ks:=fun k hk=>by rw [<- bn]; exact List.mem_map.mpr ⟨k,hk,rfl⟩
  have s04:SB [p] H H4:=((s03.mono (qs:=[D,p]) (by simp)).trans (s4.mono (by simp))).drop nD0
  refine ⟨_,rfl,q D b H4 s04 hp4 nD0 (fun z=>pD z.symm) (fun bad hb=>⟨us,hD4,hpl.mono fun _ _ h=>h.to hb⟩) ⟨⟨by omega,by omega,by rw [bn]; exact knd,fun k hk=>⟨kok _ (hmem k hk),(good k hk).1,fun r hr=>⟨((good k hk).2 r hr).1,fun x hx=>?_⟩⟩⟩,by omega,fun i k e r hr x hx=>?_,fun k hk r hr=>((good k hk).2 r hr).2⟩⟩
  ·obtain ⟨j,e⟩:=List.getElem?_of_mem hk
   rw [bn]
   exact List.mem_of_mem_take (ahd j k e r hr x hx)
  ·have:=ahd i k e r hr x hx
   rw [Bk.names,List.map_take]
   rw [<- bn] at this
   exact this
abbrev N__law_two:List Str:=["_law_pot_here","_law_found","_law_told","_law_hand","_law_book","_law_made","_law_grove","_law_way","_law_kind"]
theorem sc__law_two:FnScope N__law_two ["_law_pot_here"] (defScope s__law_two):=⟨rfl,rfl,rfl,by decide +kernel,rfl,by decide +kernel,by decide +kernel⟩
theorem ok__law_two {C_Book C_NoBook:Addr} (B:BI mg) (G__law_drawn_book:Got P w K mg base "_law_drawn_book" ["_law_pot_here","_law_most","_law_told"] (16) (spBook57 K)) (G_Book___init__:GotI P w K mg base "Book" C_Book ["self","kinds"] (88) (spBInit K C_Book C_NoBook)) (G__law_kinds:Got P w K mg base "_law_kinds" ["_law_book","_law_turned"] (1) (spKindsR K)) (G__law_take:Got P w K mg base "_law_take" ["_law_pot_here","_law_many"] (1) (spTakeR)) (G__law_drawn_grove:Got P w K mg base "_law_drawn_grove" ["_law_pot_here","_law_names_here","_law_parts","_law_great"] (14) (spGroveR K 13)) (G__law_grove_of:Got P w K mg base "_law_grove_of" ["_law_pairs"] (1) (spTidyG K)) (F:Fun K "_law_two" "_law_two" s__law_two f fd):FnOk P w K mg base CX0 (92) f fd ["_law_pot_here"] (spTwo57 K C_Book):=by
 refine F.ok sc__law_two (fun vs H Q E h=>?_) (fun cdv A outer s H vs Q E hr h=>?_)
 ·obtain ⟨p,cl,rfl,_⟩:=h
  rfl
 obtain ⟨p,cl,rfl,hp,q⟩:=h
 have hun2:=hunT hr
 refine ⟨_,pss_cons (ps_set (i:=1) sc__law_two.nd rfl (.inl rfl) (pe_lst pa_nil))
  (pss_cons (ps_set (i:=2) sc__law_two.nd rfl (.inl rfl) (pe_lst pa_nil))
  (pss_cons (ps_for PassesOwn.never rfl (pi_range1 rfl B.range (pa_cons pe_int pa_nil)) (pg_name (i:=3) sc__law_two.nd rfl (.inl rfl))
   (pss_cons (ps_set (i:=4) sc__law_two.nd rfl (.inl rfl) (pe_got G__law_drawn_book (hr.mono (by omega)) rfl (pa_cons (pv 0) (pa_cons pe_int (pa_cons (pv 2) pa_nil)))))
  (pss_cons (ps_set (i:=2) sc__law_two.nd rfl (.inl rfl) (pe_revL (pe_callTy (call_listD rfl) rfl B.list boot_list (pa_cons (pv 4) pa_nil))))
  (pss_cons (ps_set (i:=5) sc__law_two.nd rfl (.inl rfl) (pe_gotI G_Book___init__ (hr.mono (by omega)) rfl (pa_cons (pe_got G__law_kinds (hr.mono (by omega)) rfl (pa_cons (pv 4) (pa_cons (pe_cmpR op_eq (pe_got G__law_take (hr.mono (by omega)) rfl (pa_cons (pv 0) (pa_cons pe_int pa_nil))) pe_int (nomark _)) pa_nil))) pa_nil)))
  (pss_cons (ps_set (i:=6) sc__law_two.nd rfl (.inl rfl) (pe_got G__law_drawn_grove (hr.mono (by omega)) rfl (pa_cons (pv 0) (pa_cons (pe_callTy (call_listD rfl) rfl B.list boot_list (pa_cons (pv 4) pa_nil)) (pa_cons (pe_got G__law_take (hr.mono (by omega)) rfl (pa_cons (pv 0) (pa_cons pe_int pa_nil))) (pa_cons (pe_op op_pow pe_int pe_int) pa_nil))))))
  (pss_one (ps_expr (pe_bm PySem.F.plainAttrs_list PySem.F.slot_list_append PySem.F.type_list_append mt_append (pv 1) (pa_cons (pe_lst (pa_cons (pv 4) (pa_cons (pv 5) (pa_cons (pv 6) pa_nil)))) pa_nil)))))))))
  (pss_cons (ps_set (i:=7) sc__law_two.nd rfl (.inl rfl) (pe_got G__law_take (hr.mono (by omega)) rfl (pa_cons (pv 0) (pa_cons pe_int pa_nil))))
  (pss_cons (ps_if (pt_cmpR op_gt (pv 7) pe_int (nomark _)) (pss_one (ps_asg (pe_callTy call_list_of rfl B.list boot_list (pa_cons (pe_ix ix_list (pv 1) pe_int (fun _ _=>rfl)) pa_nil)) (pg_sub (pv 1) pe_int set_list))) pss_nil)
  (pss_cons (ps_if (pt_cmpR op_gt (pv 7) pe_int (nomark _)) (pss_cons (ps_set (i:=3) sc__law_two.nd rfl (.inl rfl) (pe_op op_sub (pv 7) pe_int))
  (pss_cons (ps_set (i:=8) sc__law_two.nd rfl (.inl rfl) (pe_ix ix_list (pe_callTy (call_listD rfl) rfl B.list boot_list (pa_cons (pe_ix ix_list (pe_ix ix_list (pv 1) pe_int (fun _ _=>rfl)) pe_int (fun _ _=>rfl)) pa_nil)) (pe_got G__law_take (hr.mono (by omega)) rfl (pa_cons (pv 0) (pa_cons (pe_callB call_lenD rfl B.len PySem.boot_len (pa_cons (pe_ix ix_list (pe_ix ix_list (pv 1) pe_int (fun _ _=>rfl)) pe_int (fun _ _=>rfl)) pa_nil)) pa_nil))) (fun _ _=>rfl)))
  (pss_one (ps_asg (pe_got G__law_grove_of (hr.mono (by omega)) rfl (pa_cons (pe_op op_cat (pe_callTy call_list_of rfl B.list boot_list (pa_cons (pe_ix ix_list (pe_ix ix_list (pv 1) (pv 3) (fun _ _=>rfl)) pe_int (fun _ _=>rfl)) pa_nil)) (pe_lst (pa_cons (pe_tup (pa_cons (pe_tup (pa_cons (pv 8) (pa_cons (pe_tup pa_nil) pa_nil))) (pa_cons pe_int pa_nil))) pa_nil))) pa_nil)) (pg_sub (pe_ix ix_list (pv 1) (pv 3) (fun _ _=>rfl)) pe_int set_list))))) pss_nil)
  (pss_one (ps_ret (pv 1)))))))),?_⟩
 have szl:=sizeLine_eq
 refine ⟨by show 0<=sizeLine; decide,fun F nF=>?_⟩
 have t1:=SB.new (ps:=[]) nF (.lst [])
 have hF1:upd H F (.lst []) F=some (.lst []):=upd_same
 have hp1:=hp.sb t1
 have pF:=hp.ne nF
 have cF:=hp.nc nF
 generalize upd H F (.lst [])=H1 at t1 hF1 hp1
 refine nameI ?_
 refine ⟨by show 0<=sizeLine; decide,fun t0 nt0=>?_⟩
 have t2:=SB.new (ps:=[]) nt0 (.lst [])
 have ht2:upd H1 t0 (.lst []) t0=some (.lst []):=upd_same
 have hF2:=t2.keep _ _ hF1 nmn
 have hp2:=hp1.sb t2
 have s02:=t1.trans t2
 have pt0:=hp1.ne nt0
 have Ft0:F ≠ t0:=fun z=>by rw [z,nt0] at hF1; cases hF1
 generalize upd H1 t0 (.lst [])=H2 at t2 ht2 hF2 hp2 s02
 refine nameI ?_
 refine ⟨2,rfl,by decide,by decide,?_⟩
 refine for_it (walk_range (lo:=0) (n:=2)) (fun i σ G=>SB [p,F] H2 G/\PotC G p cl/\∃ (as:List Addr) (t:Addr) (ts:List Str) (o3 o4 o5 o6:Option V),σ=[some (.ref p),some (.ref F),some (.ref t),o3,o4,o5,o6,none,none]/\G F=some (.lst (as.map V.ref))/\as.length=i/\(∀ A ∈ as,A ≠ F/\A ≠ p/\H A=none/\∃ d k w b c g,d ≠ p/\G A=some (.lst [.ref d,.ref k,w])/\Sd K C_Book G [A,F] d k w b c g/\g.parts<=6/\g.deep<=6/\g.Ok (10 ^ 12))/\G t=some (.lst (ts.map V.str))/\t ≠ p/\t ≠ F/\ts.Nodup/\(∀ k ∈ ts,NameOk k)/\ts.length<=4)
  ⟨SB.refl,hp2,[],t0,[],none,none,none,none,rfl,hF2,rfl,(fun A z=>nomatch z),ht2,pt0.symm,Ft0.symm,List.nodup_nil,(fun k z=>nomatch z),by decide⟩ (fun _ _ _ _ _=>trivial) (fun i x σ G G' hi h y=>?_) (fun σ G h=>?_)
 ·obtain ⟨s2,hp2',as,t,ts,o3,o4,o5,o6,rfl,hF2',al,has,ht,tp,tF,tnd,tok,tl⟩:=h
  obtain ⟨rfl,rfl⟩:=y
  refine ⟨_,rfl,_,rfl,p,cl,t,4,ts,rfl,hp2',by decide,by decide,ht,tp,tnd,tok,tl,fun d b H3 s3 hp3 nd dp hdk drawn=>?_⟩
  refine nameI ?_
  have hdk3:=hdk [F] (fun x hx=>by rw [List.mem_singleton.mp hx,hF2']; exact fun z=>nomatch z)
  have b4:=drawn.len
  have b1:=drawn.ok.pos
  have bnl:b.names.length=b.length:=List.length_map ..
  have keep:∀ {X Y:Hp} {A d:Addr} {k:Addr} {w:V} {b c:Bk} {g:Gr},PotC X p cl->SB [p] X Y->A ≠ p->d ≠ p->X A=some (.lst [.ref d,.ref k,w])->Sd K C_Book X [A,F] d k w b c g->Y A=some (.lst [.ref d,.ref k,w])/\Sd K C_Book Y [A,F] d k w b c g:=fun hpx s nA nd hA hS=>⟨s.keep _ _ hA (by simpa using nA),hS.pot hpx nd s⟩
  have nop:∀ {H:Hp},PotC H p cl->NoLst H [F] [p]:=fun h x hx=>.inr fun xs z=>by
   obtain ⟨kvs,e⟩:=h.isD
   rw [List.mem_singleton.mp hx,e] at z; cases z
  -- told
  obtain ⟨us,hd3,hpl⟩:=id hdk3
  have ul:=hpl.length
  have ekn:(nKV b.names us).map (fun kv=>kV kv.1)=b.names.map V.str:=by
   have h:=zk_keys (ns:=b.names) (us:=us) (by omega)
   have h2:=congrArg (List.map kV) h
   rw [List.map_map,List.map_map] at h2
   exact h2
  refine ⟨_,rfl,d,_,rfl,.inl hd3,fun N nN=>?_⟩
  rw [ekn]
  have t4:=SB.new (ps:=[]) nN (.lst (b.names.map V.str))
  have hN4:upd H3 N (.lst (b.names.map V.str)) N=some (.lst (b.names.map V.str)):=upd_same
  generalize upd H3 N (.lst (b.names.map V.str))=H4 at t4 hN4
  refine ⟨N,_,rfl,SqL.of hN4,fun t' nt'=>?_⟩
  rw [<- List.map_reverse]
  have t5:=SB.new (ps:=[]) nt' (.lst (b.names.reverse.map V.str))
  have ht5:upd H4 t' (.lst (b.names.reverse.map V.str)) t'=some (.lst (b.names.reverse.map V.str)):=upd_same
  have s35:=t4.trans t5
  have hp5:=hp3.sb s35
  have tp':t' ≠ p:=((hp3.sb t4).ne nt').symm
  have hdk5:=hdk3.sb s35 nmn NoLst.nil
  have hF3:=s3.keep _ _ hF2' (by simpa using pF.symm)
  have hF5:=s35.keep _ _ hF3 nmn
  have tF':t' ≠ F:=fun z=>by rw [z,t4.keep _ _ hF3 nmn] at nt'; cases nt'
  have s05:SB [p] G' _:=s3.trans s35.nil
  generalize upd H4 t' (.lst (b.names.reverse.map V.str))=H5 at t5 ht5 s35 hp5 hdk5 hF5 s05
  clear hpl hd3 hdk3 hF3
  refine nameI ?_
  -- made
  refine ⟨_,rfl,_,rfl,p,cl,2,rfl,hp5,by decide,by decide,fun r6 H6 _ _ s6 hp6=>?_⟩
  refine ⟨rfl,?_⟩
  generalize decide (V.int r6=V.int 1)=wd
  have hdk6:=hdk5.sb s6 (by simpa using dp) (nop hp5)
  refine ⟨d,b,wd,rfl,hdk6.dk,by omega,fun L xs H7 s7 nL hL hka=>?_⟩
  obtain ⟨c,ec,hka⟩:∃ c:Bk,(c=b\/c=b.reverse)/\KdAll K H7 [L] xs c:=⟨_,by cases wd <;> simp,hka⟩
  obtain ⟨same,nms,lv,M⟩:=drawn.made (by decide) ec
  refine nilI ?_
  refine make_core (Q:=fun x H1=>gName 5 x _ H1 _) (bad:=[L]) hL hka M.ok fun bk H8 s8 nbk hbk=>?_
  refine nameI ?_
  have s68:=s7.trans s8
  have hdk8:=hdk6.sb s68 nmn NoLst.nil
  have hp8:=hp6.sb s68
  have s08:SB [p] G' H8:=(s05.trans s6).trans s68.nil
  have ht8:=s68.keep _ _ (s6.keep _ _ ht5 (by simpa using tp')) nmn
  have hF8:=s68.keep _ _ (s6.keep _ _ hF5 (by simpa using pF.symm)) nmn
  clear hka hL hdk6 hdk5 hp6 hp5 hp3 ht5 hF5 s7 s8 s6 s05
  -- grove
  obtain ⟨us,hd8,hpl⟩:=id hdk8
  have ul:=hpl.length
  have ekn:(nKV b.names us).map (fun kv=>kV kv.1)=b.names.map V.str:=by
   have h:=zk_keys (ns:=b.names) (us:=us) (by omega)
   have h2:=congrArg (List.map kV) h
   rw [List.map_map,List.map_map] at h2
   exact h2
  refine ⟨_,rfl,_,rfl,d,_,rfl,.inl hd8,fun N nN=>?_⟩
  rw [ekn]
  have t9:=SB.new (ps:=[]) nN (.lst (b.names.map V.str))
  have hN9:upd H8 N (.lst (b.names.map V.str)) N=some (.lst (b.names.map V.str)):=upd_same
  have hp9:=hp8.sb t9
  have Np:N ≠ p:=(hp8.ne nN).symm
  generalize upd H8 N (.lst (b.names.map V.str))=H9 at t9 hN9 hp9
  refine ⟨_,rfl,p,cl,7,rfl,hp9,by decide,by decide,fun r10 H10 r100 r107 s10 hp10=>?_⟩
  refine ⟨_,_,rfl,rfl,⟨by decide,by decide,by decide⟩,?_⟩
  obtain ⟨gn,egn⟩:∃ gn:Nat,r10=(gn:Int):=⟨r10.toNat,by omega⟩
  subst egn
  have e9:(10:Int) ^ (9:Int).toNat=10 ^ 9:=rfl
  refine nilI ?_
  show spGroveR K 13 [.ref p,.ref N,.int ((gn:Nat):Int),.int (10 ^ (9:Int).toNat)] _ _ _
  rw [e9]
  refine ⟨p,N,cl,b.names,gn,10 ^ 9,rfl,hp10,⟨s10.keep _ _ hN9 (by simpa using Np),Np,by omega,fun n hn=>drawn.ok.names n hn⟩,by omega,by omega,by decide,by decide,fun gv g H11 s11 hp11 hg go gp gd gnm _=>?_⟩
  refine nameI ?_
  have s811:SB [p] H8 H11:=(t9.nil.trans s10).trans s11
  have s011:=s08.trans s811
  have hF11:=s811.keep _ _ hF8 (by simpa using pF.symm)
  have ht11:=s811.keep _ _ ht8 (by simpa using tp')
  have gnc:Gr.Named c.names g:=fun x hx=>(nms _).mpr (gnm x hx)
  have go':g.Ok (10 ^ 12):=go.mono (by
   have h1:(gn:Int)*10 ^ 9<=6*10 ^ 9:=Int.mul_le_mul_of_nonneg_right (by omega) (by decide)
   have h2:(6:Int)*10 ^ 9+1<=10 ^ 12:=by decide
   omega)
  have side:Sd K C_Book H11 [F] d bk gv b c g:=⟨hdk8.sb s811 (by simpa using dp) (nop hp8),drawn,ec,hbk.pot hp8 s811,hg,go'.mono (by decide),by omega,by omega,gnc⟩
  clear hd8 hpl hdk8 hp8 hp9 hp10 hN9 t9 s10 s11 hbk
  refine ⟨_,rfl,.inl ⟨rfl,_,SqL.of hF11⟩,_,rfl,_,rfl,_,rfl,by show 3<=sizeLine; decide,fun A nA=>?_⟩
  have t12:=SB.new (ps:=[]) nA (.lst [.ref d,.ref bk,gv])
  have hA12:upd H11 A (.lst [.ref d,.ref bk,gv]) A=some (.lst [.ref d,.ref bk,gv]):=upd_same
  have side12:=(side.more nA).sb0 t12
  have hF12:=t12.keep _ _ hF11 nmn
  have ht12:=t12.keep _ _ ht11 nmn
  have hp12:=hp11.sb t12
  have Ap:A ≠ p:=(hp11.ne nA).symm
  have AF:A ≠ F:=fun z=>by rw [z,hF11] at nA; cases nA
  have s012:SB [p] G' _:=s011.trans t12.nil
  generalize upd H11 A (.lst [.ref d,.ref bk,gv])=H12 at t12 hA12 side12 hF12 ht12 hp12 s012
  refine ⟨F,_,_,rfl,rfl,hF12,by rw [List.length_map]; omega,?_⟩
  have t13:=SB.set (ps:=[F]) hF12 (by simp) (.lst (as.map V.ref++[.ref A]))
  refine ⟨(s2.trans (s012.mono (by simp))).trans (t13.mono (by simp)),hp12.keep t13 (by simpa using pF) (by simpa using cF),as++[A],t',b.names.reverse,_,_,_,_,rfl,?_,by rw [List.length_append,al]; rfl,fun B hB=>?_,t13.keep _ _ ht12 (by simpa using tF'),tp',tF',?_,fun k hk=>drawn.ok.names k (List.mem_reverse.mp hk),by rw [List.length_reverse]; omega⟩
  ·rw [upd_same,List.map_append]; rfl
  ·rcases List.mem_append.mp hB with e | e
   ·obtain ⟨n1,n2,n3,d',k',w',b',c',g',nd',hB1,hB2,h3⟩:=has B e
    obtain ⟨k1,k2⟩:=keep hp2' s012 n2 nd' hB1 hB2
    exact ⟨n1,n2,n3,d',k',w',b',c',g',nd',t13.keep _ _ k1 (by simpa using n1),k2.lst hF12 (by simp) t13,h3⟩
   ·rw [List.mem_singleton.mp e]
    exact ⟨AF,Ap,s02.dom _ (s2.dom _ (s011.dom _ nA)),d,bk,gv,b,c,g,dp,t13.keep _ _ hA12 (by simpa using AF),side12.lst hF12 (by simp) t13,by omega,by omega,go'⟩
  ·unfold List.Nodup
   rw [List.pairwise_reverse]
   exact drawn.ok.nd.imp fun h=>h.symm
 obtain ⟨s2,hpG,as,t,ts,o3,o4,o5,o6,rfl,hFG,al,has,_⟩:=h
 obtain ⟨A,B,rfl⟩:∃ A B,as=[A,B]:=by
  match as,al with
  | [x,y],_=>exact ⟨x,y,rfl⟩
 obtain ⟨AF,Ap,nA0,d,k,w,b,c,g,dp,hA,sA,pA,deA,goA⟩:=has A (by simp)
 obtain ⟨BF,Bp,_,d',k',w',b',c',g',dp',hB,sB,pB,deB,goB⟩:=has B (by simp)
 have s0G:SB [p] H G:=((s02.nil (ps:=[F,p])).trans (s2.mono (by simp))).drop nF
 clear has s2 s02 hp1 hp2 hF1 hF2 ht2 t1 t2
 refine ⟨_,rfl,p,cl,5,rfl,hpG,by decide,by decide,fun r1 G1 r10 r15 s1 hp1=>?_⟩
 refine nameI ?_
 have hFG:G F=some (.lst [V.ref A,V.ref B]):=hFG
 have hF1:=s1.keep _ _ hFG (by simpa using pF.symm)
 have hA1:=s1.keep _ _ hA (by simpa using Ap)
 have hB1:=s1.keep _ _ hB (by simpa using Bp)
 have sA1:=sA.pot hpG dp s1
 have sB1:=sB.pot hpG dp' s1
 have s01:=s0G.trans s1
 clear hA hB hFG sA sB hpG s0G s1
 refine ⟨_,rfl,_,_,rfl,rfl,_,rfl,?_⟩
 cases w1:decide ((1:Int) < r1) with
 | false =>
  have n2:decide ((2:Int) < r1)=false:=decide_eq_false (by have:=of_decide_eq_false w1; omega)
  refine iteF (nextI ⟨_,rfl,_,_,rfl,rfl,_,rfl,?_⟩)
  rw [n2]
  exact iteF (nextI ⟨_,rfl,q F A B d d' k k' w w' b b' c c' g g' _ s01 hp1 hF1 hA1 hB1 sA1.nil sB1.nil⟩)
 | true =>
 clear hB1 sB1
 refine iteT ⟨_,rfl,F,_,_,_,rfl,rfl,SqL.of hF1,atI_nat (j:=0) rfl,A,_,rfl,.inl (SqL.of hA1),fun B2 nB2=>?_⟩
 have t2:=SB.new (ps:=[]) nB2 (.lst [.ref d,.ref k,w])
 have hB2:upd G1 B2 (.lst [.ref d,.ref k,w]) B2=some (.lst [.ref d,.ref k,w]):=upd_same
 have hA2:=t2.keep _ _ hA1 nmn
 have hF2:=t2.keep _ _ hF1 nmn
 have S2:=(sA1.more nB2).sb0 t2
 have hp2:=hp1.sb t2
 have B2F:B2 ≠ F:=fun z=>by rw [z,hF1] at nB2; cases nB2
 have B2A:B2 ≠ A:=fun z=>by rw [z,hA1] at nB2; cases nB2
 have B2p:B2 ≠ p:=(hp1.ne nB2).symm
 have nB0:=s01.dom _ nB2
 have s02:=s01.trans t2.nil
 generalize upd G1 B2 (.lst [.ref d,.ref k,w])=G2 at t2 hB2 hA2 hF2 S2 hp2 s02
 refine ⟨_,rfl,F,_,1,1,rfl,rfl,hF2,rfl,?_⟩
 have t3:=SB.set (ps:=[F]) hF2 (by simp) (.lst (([V.ref A,V.ref B]:List V).set 1 (.ref B2)))
 have hF3:upd G2 F (.lst (([V.ref A,V.ref B]:List V).set 1 (.ref B2))) F=some (.lst [.ref A,.ref B2]):=upd_same
 have hA3:=t3.keep _ _ hA2 (by simpa using AF)
 have hB3:=t3.keep _ _ hB2 (by simpa using B2F)
 have S3:=S2.lst hF2 (by simp) t3
 have hp3:=hp2.keep t3 (by simpa using pF) (by simpa using cF)
 have s03:SB [F,p] H _:=(s02.mono (by simp)).trans (t3.mono (by simp))
 have s03:=s03.drop nF
 generalize upd G2 F (.lst (([V.ref A,V.ref B]:List V).set 1 (.ref B2)))=G3 at t3 hF3 hA3 hB3 S3 hp3 s03
 clear t2 hB2 hA2 hF2 S2 hp2 s02 hA1 hF1 sA1 hp1 s01
 refine ⟨_,rfl,_,_,rfl,rfl,_,rfl,?_⟩
 cases w2:decide ((2:Int) < r1) with
 | false=>exact iteF (nextI ⟨_,rfl,q F A B2 d d k k w w b b c c g g _ s03 hp3 hF3 hA3 hB3 S3.nil S3.nil⟩)
 | true =>
 refine iteT ?_
 refine ⟨_,rfl,_,_,rfl,rfl,?_⟩
 obtain ⟨X,eX,hX,XAB⟩:∃ X:Addr,atI [V.ref A,V.ref B2] (r1-3)=some (.ref X)/\G3 X=some (.lst [.ref d,.ref k,w])/\(X=A\/X=B2):=by
  have:=of_decide_eq_true w2
  rcases (by omega:r1=3\/r1=4) with rfl | rfl
  ·exact ⟨A,rfl,hA3,.inl rfl⟩
  ·exact ⟨B2,rfl,hB3,.inr rfl⟩
 have Xp:X ≠ p:=by rcases XAB with rfl | rfl <;> assumption
 have b4:=S3.dr.len
 have b1:=S3.dr.ok.pos
 have bok:=S3.dr.ok
 have bnl:b.names.length=b.length:=List.length_map ..
 obtain ⟨us,hd3,hpl⟩:=S3.dk
 have ul:=hpl.length
 have ekn:(nKV b.names us).map (fun kv=>kV kv.1)=b.names.map V.str:=by
  have h:=zk_keys (ns:=b.names) (us:=us) (by omega)
  have h2:=congrArg (List.map kV) h
  rw [List.map_map,List.map_map] at h2
  exact h2
 have zl:(nKV b.names us).length=b.length:=by
  show (List.zipWith _ _ _).length=_
  rw [List.length_zipWith]; omega
 refine ⟨_,rfl,F,_,_,_,rfl,rfl,SqL.of hF3,atI_nat (j:=0) rfl,A,_,_,_,rfl,rfl,SqL.of hA3,atI_nat (j:=0) rfl,d,_,rfl,.inl hd3,fun N nN=>?_⟩
 rw [ekn]
 have t4:=SB.new (ps:=[]) nN (.lst (b.names.map V.str))
 have hN4:upd G3 N (.lst (b.names.map V.str)) N=some (.lst (b.names.map V.str)):=upd_same
 have hF4:=t4.keep _ _ hF3 nmn
 have hA4:=t4.keep _ _ hA3 nmn
 have hd4:=t4.keep _ _ hd3 nmn
 have hp4:=hp3.sb t4
 have Np:N ≠ p:=(hp3.ne nN).symm
 generalize upd G3 N (.lst (b.names.map V.str))=G4 at t4 hN4 hF4 hA4 hd4 hp4
 refine ⟨_,rfl,?_⟩
 refine ⟨_,rfl,F,_,_,_,rfl,rfl,SqL.of hF4,atI_nat (j:=0) rfl,A,_,_,_,rfl,rfl,SqL.of hA4,atI_nat (j:=0) rfl,d,_,rfl,hd4,?_⟩
 rw [zl]
 refine ⟨p,cl,((b.length:Nat):Int),rfl,hp4,by omega,Int.lt_trans (show ((b.length:Nat):Int) < 10 by omega) (by decide),fun r5 G5 r50 r51 s5 hp5=>?_⟩
 obtain ⟨j5,rfl⟩:∃ j:Nat,r5=(j:Int):=⟨r5.toNat,by omega⟩
 obtain ⟨kn,ekn5⟩:∃ kn,b.names[j5]?=some kn:=⟨_,List.getElem?_eq_getElem (by omega)⟩
 have knm:=List.mem_of_getElem? ekn5
 have kno:=bok.names kn knm
 have hN5:=s5.keep _ _ hN4 (by simpa using Np)
 refine ⟨N,_,_,_,rfl,rfl,SqL.of hN5,atI_nat (by rw [List.getElem?_map,ekn5]; rfl),?_⟩
 refine nameI ?_
 have s35:SB [p] G3 G5:=t4.nil.trans s5
 have hF5:=s35.keep _ _ hF3 (by simpa using pF.symm)
 have hX5:=s35.keep _ _ hX (by simpa using Xp)
 have S5:=S3.pot hp3 dp s35
 have hA5:=s35.keep _ _ hA3 (by simpa using Ap)
 have hB5:=s35.keep _ _ hB3 (by simpa using B2p)
 have s05:=s03.trans s35
 clear hN4 hF4 hA4 hd4 hp4 t4 s5 hN5 hd3 hpl hp3 hF3 hA3 hB3 hX s03 s35
 obtain ⟨ga,gxs,rfl,hga,hgb⟩:=GA_bears S5.ga
 have gxl:=hgb.length
 have glp:=g.len_parts
 refine ⟨_,rfl,_,rfl,F,_,_,_,rfl,rfl,SqL.of hF5,eX,X,_,_,_,rfl,rfl,SqL.of hX5,atI_nat (j:=2) rfl,ga,gxs,rfl,.inr hga,fun l1 nl1=>?_⟩
 have q1:=SB.new (ps:=[]) nl1 (.lst gxs)
 have hl1:upd G5 l1 (.lst gxs) l1=some (.lst gxs):=upd_same
 have hgb1:=hgb.sb q1 Gr.noList_pEnc
 generalize upd G5 l1 (.lst gxs)=Q1 at q1 hl1 hgb1
 refine ⟨_,rfl,by show 0<=sizeLine; decide,fun z1 nz1=>?_⟩
 have w1':=SB.new (ps:=[]) nz1 (.tup [])
 have hz1:SqT K (upd Q1 z1 (.tup [])) z1 []:=SqT.of upd_same
 generalize upd Q1 z1 (.tup [])=W1 at w1' hz1
 refine ⟨by show 2<=sizeLine; decide,fun z2 nz2=>?_⟩
 have w2':=SB.new (ps:=[]) nz2 (.tup [.str kn,.ref z1])
 have hz2:SqT K (upd W1 z2 (.tup [.str kn,.ref z1])) z2 [.str kn,.ref z1]:=SqT.of upd_same
 have hz12:=w2'.sqT hz1
 have w12:=w1'.trans w2'
 generalize upd W1 z2 (.tup [.str kn,.ref z1])=W2 at w2' hz2 hz12 w12
 refine ⟨by show 2<=sizeLine; decide,fun z3 nz3=>?_⟩
 have w3':=SB.new (ps:=[]) nz3 (.tup [.ref z2,.int 1])
 have hz3:SqT K (upd W2 z3 (.tup [.ref z2,.int 1])) z3 [.ref z2,.int 1]:=SqT.of upd_same
 have ht3:Dp K (upd W2 z3 (.tup [.ref z2,.int 1])) (.ref z3) (Gr.pEnc ((kn,.nil),1)):=.tup hz3 (.cons (.tup (w3'.sqT hz2) (.cons (.str _) (.cons (GA_nil (w3'.sqT hz12)) .nil))) (.cons (.int _) .nil))
 have w13:=w12.trans w3'
 generalize upd W2 z3 (.tup [.ref z2,.int 1])=W3 at w3' hz3 ht3 w13
 refine ⟨by show 1<=sizeLine; decide,fun l2 nl2=>?_⟩
 have q5:=SB.new (ps:=[]) nl2 (.lst [.ref z3])
 have h5:upd W3 l2 (.lst [.ref z3]) l2=some (.lst [.ref z3]):=upd_same
 have ht5:=Dp_sb q5 _ _ (Gr.noList_pEnc _) ht3
 have q15:=w13.trans q5
 have hl5:=q15.keep _ _ hl1 nmn
 have hgb5:=hgb1.sb q15 Gr.noList_pEnc
 generalize upd W3 l2 (.lst [.ref z3])=Q5 at q5 h5 ht5 q15 hl5 hgb5
 refine ⟨l1,l2,_,_,rfl,rfl,hl5,h5,by show gxs.length+1<=sizeLine; omega,fun l3 nl3=>?_⟩
 have q6:=SB.new (ps:=[]) nl3 (.lst (gxs++[.ref z3]))
 have h6:upd Q5 l3 (.lst (gxs++[.ref z3])) l3=some (.lst (gxs++[.ref z3])):=upd_same
 have hb6:Bears K (upd Q5 l3 (.lst (gxs++[.ref z3]))) Gr.pEnc (gxs++[.ref z3]) (g.ps++[((kn,.nil),1)]):=(hgb5.sb q6 Gr.noList_pEnc).append (.cons (Dp_sb q6 _ _ (Gr.noList_pEnc _) ht5) .nil)
 have q16:=(q1.trans q15).trans q6
 generalize upd Q5 l3 (.lst (gxs++[.ref z3]))=Q6 at q6 h6 hb6 q16
 clear w1' hz1 w2' hz2 hz12 w12 w3' hz3 ht3 w13 q5 h5 ht5 q15 hl5 hgb5 hl1 hgb1
 have okE:∀ p ∈ g.ps++[((kn,Gr.nil),(1:Int))],NameOk p.1.1/\p.1.2.Ok (10 ^ 12)/\1<=p.2:=fun p hp=>by
  rcases List.mem_append.mp hp with e | e
  ·obtain ⟨a1,a2,a3,_⟩:=(Gr.ok_iff.mp goA).1 p e
   exact ⟨a1,a2,a3⟩
  ·rw [List.mem_singleton.mp e]
   exact ⟨kno,trivial,Int.le_refl _⟩
 have numE:∀ p ∈ g.ps++[((kn,Gr.nil),(1:Int))],p.2<=10 ^ 12:=fun p hp=>by
  rcases List.mem_append.mp hp with e | e
  ·obtain ⟨_,_,_,a4⟩:=(Gr.ok_iff.mp goA).1 p e
   exact Int.le_of_lt a4
  ·rw [List.mem_singleton.mp e]; show (1:Int)<=10 ^ 12; decide
 have dpE:∀ p ∈ g.ps++[((kn,Gr.nil),(1:Int))],p.1.2.deep<=5:=fun p hp=>by
  rcases List.mem_append.mp hp with e | e
  ·have:=g.mem_deep p e; omega
  ·rw [List.mem_singleton.mp e]; exact Nat.zero_le _
 have kc:kn ∈ c.names:=by
  rcases S5.tr with e | e
  ·rw [e]; exact knm
  ·rw [e,Bk.names,List.map_reverse]; exact List.mem_reverse.mpr knm
 have knE:∀ p ∈ g.ps++[((kn,Gr.nil),(1:Int))],p.1.1 ∈ c.names/\Gr.Named c.names p.1.2:=fun p hp=>by
  rcases List.mem_append.mp hp with e | e
  ·exact Gr.named_iff.mp S5.nm p e
  ·rw [List.mem_singleton.mp e]
   exact ⟨kc,fun x hx=>nomatch hx⟩
 have bel:(g.ps++[((kn,Gr.nil),(1:Int))]).length=g.ps.length+1:=by rw [List.length_append]; rfl
 refine ⟨l3,_,_,rfl,.inl (SqL.of h6),hb6,by omega,⟨10 ^ 12,fun p hp=>⟨(okE p hp).1,(okE p hp).2.1,by have:=dpE p hp; omega⟩⟩,fun ev Q7 q7 hev=>?_⟩
 have eD:(Gr.tidy (g.ps++[((kn,Gr.nil),(1:Int))])).deep<=7:=Gr.tidy_deep fun p hp=>by have:=dpE p hp; omega
 have eP:(Gr.tidy (g.ps++[((kn,Gr.nil),(1:Int))])).parts<=7:=Nat.le_trans (Gr.tidy_parts _) (by rw [Gr.tot_append,Gr.tot_ps]; show g.parts+(1+0+0)<=7; omega)
 have eN:Gr.Named c.names (Gr.tidy (g.ps++[((kn,Gr.nil),(1:Int))])):=Gr.tidy_namedL knE
 have eO:(Gr.tidy (g.ps++[((kn,Gr.nil),(1:Int))])).Ok (2 ^ 100):=Gr.tidy_ok okE (by
  have h1:=allE_le (C:=10 ^ 12) (by decide) numE
  have h2:((g.ps++[((kn,Gr.nil),(1:Int))]).length:Int)*10 ^ 12<=10*10 ^ 12:=Int.mul_le_mul_of_nonneg_right (by omega) (by decide)
  have h3:(10:Int)*10 ^ 12 < 2 ^ 100:=by decide
  omega) (by decide)
 generalize Gr.tidy (g.ps++[((kn,Gr.nil),(1:Int))])=ge at hev eD eP eN eO
 clear okE numE dpE knE bel hb6 h6
 have q57:=q16.trans q7
 have hF7:=q57.keep _ _ hF5 nmn
 have hX7:=q57.keep _ _ hX5 nmn
 have hA7:=q57.keep _ _ hA5 nmn
 have hB7:=q57.keep _ _ hB5 nmn
 have S7:=S5.sb0 q57
 have hp7:=hp5.sb q57
 have s07:=s05.trans q57.nil
 have pX:=Xp.symm
 have cX:cl ≠ X:=fun z=>by
  obtain ⟨ns,_,_,_,_,a2,_⟩:=hp7
  rw [z,hX7] at a2
  have:=Option.some.inj a2
  injection this with this
  match ns,this with
  | x::_,e=>cases e
 refine ⟨_,rfl,_,rfl,F,_,_,_,rfl,rfl,SqL.of hF7,eX,X,_,2,2,rfl,rfl,hX7,rfl,?_⟩
 have t8:=SB.set (ps:=[X]) hX7 (by simp) (.lst (([V.ref d,V.ref k,V.ref ga]:List V).set 2 ev))
 have hX8:upd Q7 X (.lst (([V.ref d,V.ref k,V.ref ga]:List V).set 2 ev)) X=some (.lst [.ref d,.ref k,ev]):=upd_same
 have S8:=S7.lst hX7 (by rcases XAB with rfl | rfl <;> simp) t8
 have hp8:=hp7.keep t8 (by simpa using pX) (by simpa using cX)
 have XF:X ≠ F:=by rcases XAB with rfl | rfl <;> assumption
 have hF8:=t8.keep _ _ hF7 (by simpa using XF.symm)
 have hev8:=GA.sb hev t8
 have nX0:H X=none:=by rcases XAB with rfl | rfl <;> assumption
 have s08:SB [p] H _:=((s07.mono (qs:=[X,p]) (by simp)).trans (t8.mono (by simp))).drop nX0
 generalize upd Q7 X (.lst (([V.ref d,V.ref k,V.ref ga]:List V).set 2 ev))=G8 at t8 hX8 S8 hp8 hF8 hev8 s08
 have E8:Sd K C_Book G8 [] d k ev b c ge:=⟨S8.nil.dk,S8.dr,S8.tr,S8.bk,hev8,eO,eP,eD,eN⟩
 refine nextI ⟨_,rfl,?_⟩
 rcases XAB with rfl | rfl
 ·exact q F X B2 d d k k ev (.ref ga) b b c c ge g _ s08 hp8 hF8 hX8 (t8.keep _ _ hB7 (by simpa using B2A)) E8 S8.nil
 ·exact q F A X d d k k (.ref ga) ev b b c c g ge _ s08 hp8 hF8 (t8.keep _ _ hA7 (by simpa using B2A.symm)) hX8 S8.nil E8
abbrev N__law_refused:List Str:=["_law_way","_law_made","_law_grove","_law_rings","_law_x","_law_z","_law_strange","_law_name"]
theorem sc__law_refused:FnScope N__law_refused ["_law_way","_law_made","_law_grove"] (defScope s__law_refused):=⟨rfl,rfl,rfl,by decide +kernel,rfl,by decide +kernel,by decide +kernel⟩
theorem ok__law_refused {C_Book C_NoBook:Addr} (B:BI mg) (G_Book___init__:GotI P w K mg base "Book" C_Book ["self","kinds"] (88) (spBInit K C_Book C_NoBook)) (G__law_refusal:Got P w K mg base "_law_refusal" ["_law_way","_law_made","_law_grove","_law_other","_law_far"] (95) (spRefl57 K C_Book)) (F:Fun K "_law_refused" "_law_refused" s__law_refused f fd):FnOk P w K mg base CX0 (98) f fd ["_law_way","_law_made","_law_grove"] (spRefd57 K C_Book):=by
 refine F.ok sc__law_refused (fun vs H Q E h=>?_) (fun cdv A outer s H vs Q E hr h=>?_)
 ·obtain ⟨way,d,k,w,b,c,g,rfl,_⟩:=h
  rfl
 obtain ⟨way,d,k,w,b,c,g,rfl,hS,q⟩:=h
 have hun2:=hunT hr
 refine ⟨_,pss_cons (ps_set (i:=3) sc__law_refused.nd rfl (.inl rfl) (pe_lst (pa_cons (pe_gotI G_Book___init__ (hr.mono (by omega)) rfl (pa_cons (pe_lc (own:=[("_law_name",7)]) (g:=(gName 7)) (tt:=tYes) (te:=(tTup (tCons (tVar 7) (tCons (tOp rEq (tVar 7) (tC (.str "y"))) (tCons (tLst (tCons (tTup (tCons (tTup (tCons (tTup (tCons (tTup (tCons (tC (.str "x")) (tCons (tTup tNil) tNil))) (tCons (tC (.int 2)) tNil))) tNil)) (tCons (tTup (tCons (tTup (tCons (tTup (tCons (tC (.str "y")) (tCons (tTup tNil) tNil))) (tCons (tC (.int 1)) tNil))) tNil)) tNil))) tNil)) tNil))))) rfl sc__law_refused.nd (pi_list (pe_lst (pa_cons pe_str (pa_cons pe_str pa_nil)))) (blkOk_by (N:=N__law_refused) (sc:=defScope s__law_refused) (by decide +kernel)) (fun _ _ _ _ _=>(pg_name (i:=7) sc__law_refused.nd rfl (.inl rfl))) (fun _ _ _ _ _=>pts_nil) (fun _ _ _ _ _=>(pe_tup (pa_cons (pv 7) (pa_cons (pe_cmpR op_eq (pv 7) pe_str (nomark _)) (pa_cons (pe_lst (pa_cons (pe_tup (pa_cons (pe_tup (pa_cons (pe_tup (pa_cons (pe_tup (pa_cons pe_str (pa_cons (pe_tup pa_nil) pa_nil))) (pa_cons pe_int pa_nil))) pa_nil)) (pa_cons (pe_tup (pa_cons (pe_tup (pa_cons (pe_tup (pa_cons pe_str (pa_cons (pe_tup pa_nil) pa_nil))) (pa_cons pe_int pa_nil))) pa_nil)) pa_nil))) pa_nil)) pa_nil)))))) pa_nil)) (pa_cons (pe_gotI G_Book___init__ (hr.mono (by omega)) rfl (pa_cons (pe_lst (pa_cons (pe_tup (pa_cons pe_str (pa_cons pe_bl (pa_cons (pe_lst (pa_cons (pe_tup (pa_cons (pe_tup pa_nil) (pa_cons (pe_tup (pa_cons (pe_tup (pa_cons (pe_tup (pa_cons pe_str (pa_cons (pe_tup pa_nil) pa_nil))) (pa_cons pe_int pa_nil))) pa_nil)) pa_nil))) pa_nil)) pa_nil)))) pa_nil)) pa_nil)) pa_nil))))
  (pss_cons (ps_set (i:=4) sc__law_refused.nd rfl (.inl rfl) (pe_tup (pa_cons (pe_tup (pa_cons (pe_tup (pa_cons pe_str (pa_cons (pe_tup (pa_cons (pe_tup (pa_cons (pe_tup (pa_cons pe_str (pa_cons (pe_tup pa_nil) pa_nil))) (pa_cons pe_int pa_nil))) pa_nil)) pa_nil))) (pa_cons pe_int pa_nil))) pa_nil)))
  (pss_cons (ps_set (i:=5) sc__law_refused.nd rfl (.inl rfl) (pe_tup (pa_cons (pe_tup (pa_cons (pe_tup (pa_cons pe_str (pa_cons (pe_tup pa_nil) pa_nil))) (pa_cons pe_int pa_nil))) pa_nil)))
  (pss_cons (ps_set (i:=6) sc__law_refused.nd rfl (.inl rfl) (pe_lst (pa_cons (pe_tup (pa_cons (pe_tup (pa_cons (pe_tup (pa_cons pe_str (pa_cons (pe_tup pa_nil) pa_nil))) (pa_cons pe_int pa_nil))) (pa_cons (pe_tup (pa_cons (pe_tup (pa_cons pe_str (pa_cons (pe_tup pa_nil) pa_nil))) (pa_cons pe_int pa_nil))) pa_nil))) (pa_cons (pe_tup (pa_cons (pe_tup (pa_cons (pe_tup (pa_cons pe_str (pa_cons (pe_tup pa_nil) pa_nil))) (pa_cons pe_int pa_nil))) (pa_cons (pe_tup (pa_cons (pe_tup (pa_cons pe_str (pa_cons (pe_tup pa_nil) pa_nil))) (pa_cons pe_int pa_nil))) pa_nil))) pa_nil))))
  (pss_one (ps_ret (pe_cmpR (op_eqD (by show A.units+3+64 < cLine; omega)) (pe_lst (pa_cons (pe_got G__law_refusal (hr.mono (by omega)) rfl (pa_cons (pv 0) (pa_cons (pe_ix ix_list (pv 3) pe_int (fun _ _=>rfl)) (pa_cons (pv 4) (pa_cons (pe_ix ix_list (pv 3) pe_int (fun _ _=>rfl)) (pa_cons (pv 5) pa_nil)))))) (pa_cons (pe_got G__law_refusal (hr.mono (by omega)) rfl (pa_cons (pv 0) (pa_cons (pe_ix ix_list (pv 3) pe_int (fun _ _=>rfl)) (pa_cons (pv 4) (pa_cons (pe_ix ix_list (pv 3) pe_int (fun _ _=>rfl)) (pa_cons (pe_ix ix_list (pv 6) pe_int (fun _ _=>rfl)) pa_nil)))))) (pa_cons (pe_got G__law_refusal (hr.mono (by omega)) rfl (pa_cons (pv 0) (pa_cons (pe_ix ix_list (pv 3) pe_int (fun _ _=>rfl)) (pa_cons (pe_ix ix_list (pv 6) pe_int (fun _ _=>rfl)) (pa_cons (pe_ix ix_list (pv 3) pe_int (fun _ _=>rfl)) (pa_cons (pe_ix ix_list (pv 6) pe_int (fun _ _=>rfl)) pa_nil)))))) (pa_cons (pe_got G__law_refusal (hr.mono (by omega)) rfl (pa_cons (pv 0) (pa_cons (pv 1) (pa_cons (pv 2) (pa_cons (pe_ix ix_list (pv 3) pe_int (fun _ _=>rfl)) (pa_cons (pv 5) pa_nil)))))) (pa_cons (pe_got G__law_refusal (hr.mono (by omega)) rfl (pa_cons (pv 0) (pa_cons (pe_ix ix_list (pv 3) pe_int (fun _ _=>rfl)) (pa_cons (pv 5) (pa_cons (pv 1) (pa_cons (pv 2) pa_nil)))))) (pa_cons (pe_got G__law_refusal (hr.mono (by omega)) rfl (pa_cons (pv 0) (pa_cons (pv 1) (pa_cons (pv 2) (pa_cons (pv 1) (pa_cons (pv 2) pa_nil)))))) pa_nil))))))) (pe_lst (pa_cons (pe_tup (pa_cons pe_str (pa_cons pe_str pa_nil))) (pa_cons (pe_tup (pa_cons pe_str (pa_cons pe_str pa_nil))) (pa_cons (pe_tup (pa_cons pe_str (pa_cons pe_str pa_nil))) (pa_cons (pe_tup (pa_cons pe_str (pa_cons pe_str pa_nil))) (pa_cons (pe_tup (pa_cons pe_str (pa_cons pe_str pa_nil))) (pa_cons (pe_tup (pa_cons pe_str (pa_cons pe_str pa_nil))) pa_nil))))))) (nomark _))))))),?_⟩
 have szl:=sizeLine_eq
 -- the first ring
 refine ⟨by show 2<=sizeLine; decide,fun L0 nL0=>?_⟩
 have t0:=SB.new (ps:=[]) nL0 (.lst [.str "y",.str "x"])
 have hL0:upd H L0 (.lst [.str "y",.str "x"]) L0=some (.lst [.str "y",.str "x"]):=upd_same
 generalize upd H L0 (.lst [.str "y",.str "x"])=H0 at t0 hL0
 refine ⟨L0,rfl,⟨_,SqL.of hL0⟩,fun D nD=>?_⟩
 refine lc_seqQ (walk_list (xs:=[.str "y",.str "x"])) [] nD (by simp) (by show 2 < sizeLine; decide) (fun i us G=>KdAll K G [D] us (bkY.take i)) .nil (fun G s=>s.sqL nmn (SqL.of hL0)) (fun i us G G' s h=>h.sb s NoLst.self) (fun Pv i x Hq G us hi s3 y hR hu hD3 fin skip=>?_) (fun us G s3 hD3 hR hul=>?_)
 ·obtain ⟨rfl,ey⟩:=y
  obtain ⟨n,rfl,ekd⟩:∃ n:Str,x=.str n/\bkY[i]?=some ⟨n,decide (V.str n=V.str "y"),[ruY]⟩:=by
   match i,ey with
   | 0,ey=>cases ey; exact ⟨"y",rfl,by rw [decide_eq_true rfl]; rfl⟩
   | 1,ey=>cases ey; exact ⟨"x",rfl,by rw [decide_eq_false (by decide +kernel)]; rfl⟩
  refine ⟨rfl,?_⟩
  refine ⟨_,rfl,_,rfl,rfl,?_⟩
  dsimp only [tLst,tCons]
  refine rule_two (K:=K) fun T H4 s4 hT=>?_
  have hT:Dp K H4 (.ref T) (Ru.enc ruY):=hT
  refine ⟨by show 1<=sizeLine; decide,fun R nR=>?_⟩
  have t5:=SB.new (ps:=[]) nR (.lst [.ref T])
  have hR5:upd H4 R (.lst [.ref T]) R=some (.lst [.ref T]):=upd_same
  have hT5:=Dp_sb t5 _ _ (Ru.noList_enc _) hT
  have s35:=s4.trans t5
  have RD:R ≠ D:=fun z=>by rw [z,s4.keep _ _ hD3 nmn] at nR; cases nR
  generalize upd H4 R (.lst [.ref T])=H5 at t5 hR5 hT5 s35
  refine ⟨by show 3<=sizeLine; decide,fun U nU=>?_⟩
  have t6:=SB.new (ps:=[]) nU (.tup [.str n,.bl (decide (V.str n=V.str "y")),.ref R])
  refine fin _ _ (s35.trans t6) ?_
  rw [List.take_add_one,ekd]
  exact ((hR.sb s35 NoLst.nil).sb t6 NoLst.nil).append (.cons ⟨U,R,[.ref T],rfl,SqT.of upd_same,t6.keep _ _ hR5 nmn,.cons (Dp_sb t6 _ _ (Ru.noList_enc _) hT5) .nil,by simpa using RD⟩ .nil)
 have s03:=t0.trans s3
 have hR:KdAll K G [D] us bkY:=hR
 refine make_core2 (bad:=[D]) hD3 hR bkY_ok fun bk0 H1 s1 nbk0 hbk0=>?_
 have s01:=s03.trans s1
 clear hR hD3 s3 t0 hL0 s03 s1
 refine ⟨rfl,?_⟩
 -- the second ring
 refine ⟨by show 0<=sizeLine; decide,fun e ne=>?_⟩
 have t2:=SB.new (ps:=[]) ne (.tup [])
 have he2:SqT K (upd H1 e (.tup [])) e []:=SqT.of upd_same
 generalize upd H1 e (.tup [])=H2 at t2 he2
 refine bare_one (K:=K) fun v2 H3 s3 h2=>?_
 refine ⟨by show 2<=sizeLine; decide,fun T nT=>?_⟩
 have t4:=SB.new (ps:=[]) nT (.tup [.ref e,v2])
 have hT:Dp K (upd H3 T (.tup [.ref e,v2])) (.ref T) (Ru.enc ruZ):=.tup (SqT.of upd_same) (.cons (GA_nil (t4.sqT (s3.sqT he2))) (.cons (GA.sb h2 t4) .nil))
 generalize upd H3 T (.tup [.ref e,v2])=H4 at t4 hT
 refine ⟨by show 1<=sizeLine; decide,fun R nR=>?_⟩
 have t5:=SB.new (ps:=[]) nR (.lst [.ref T])
 have hR5:upd H4 R (.lst [.ref T]) R=some (.lst [.ref T]):=upd_same
 have hT5:=Dp_sb t5 _ _ (Ru.noList_enc _) hT
 generalize upd H4 R (.lst [.ref T])=H5 at t5 hR5 hT5
 refine ⟨by show 3<=sizeLine; decide,fun U nU=>?_⟩
 have t6:=SB.new (ps:=[]) nU (.tup [.str "z",.bl true,.ref R])
 have hU6:SqT K (upd H5 U (.tup [.str "z",.bl true,.ref R])) U [.str "z",.bl true,.ref R]:=SqT.of upd_same
 have hR6:=t6.keep _ _ hR5 nmn
 have hT6:=Dp_sb t6 _ _ (Ru.noList_enc _) hT5
 generalize upd H5 U (.tup [.str "z",.bl true,.ref R])=H6 at t6 hU6 hR6 hT6
 refine ⟨by show 1<=sizeLine; decide,fun L nL=>?_⟩
 have t7:=SB.new (ps:=[]) nL (.lst [.ref U])
 have hka:KdAll K (upd H6 L (.lst [.ref U])) [] [.ref U] bkZ:=.cons ⟨U,R,[.ref T],rfl,t7.sqT hU6,t7.keep _ _ hR6 nmn,.cons (Dp_sb t7 _ _ (Ru.noList_enc _) hT6) .nil,nmn⟩ .nil
 have s17:=((((t2.trans s3).trans t4).trans t5).trans t6).trans t7
 refine make_core2 (bad:=[]) upd_same hka bkZ_ok fun bk1 H8 s8 nbk1 hbk1=>?_
 have s18:=s17.trans s8
 have hbk08:=hbk0.sb0 s18
 have s08:=s01.trans s18
 clear hka t7 hU6 hR6 hT6 t6 hR5 hT5 t5 hT t4 h2 s3 he2 t2 s17 s8 s18 hbk0 s01
 refine ⟨rfl,?_⟩
 refine ⟨by show 2<=sizeLine; decide,fun RL nRL=>?_⟩
 have t9:=SB.new (ps:=[]) nRL (.lst [.ref bk0,.ref bk1])
 have hRL9:upd H8 RL (.lst [.ref bk0,.ref bk1]) RL=some (.lst [.ref bk0,.ref bk1]):=upd_same
 generalize upd H8 RL (.lst [.ref bk0,.ref bk1])=H9 at t9 hRL9
 refine nameI ?_
 refine seqI (asgI ?_)
 refine held_one (K:=K) fun xv H10 s10 hx=>?_
 refine nameI ?_
 refine seqI (asgI ?_)
 refine bare_one (K:=K) fun zv H11 s11 hz=>?_
 refine nameI ?_
 refine seqI (asgI ?_)
 dsimp only [tLst,tCons]
 refine bare_two (K:=K) fun av H12 s12 ha=>?_
 refine bare_two (K:=K) fun bv H13 s13 hb=>?_
 refine ⟨by show 2<=sizeLine; decide,fun SL nSL=>?_⟩
 have t14:=SB.new (ps:=[]) nSL (.lst [av,bv])
 have hSL:upd H13 SL (.lst [av,bv]) SL=some (.lst [av,bv]):=upd_same
 have s914:=(((s10.trans s11).trans s12).trans s13).trans t14
 have hRL:=s914.keep _ _ hRL9 nmn
 have hx:=GA.sb hx (((s11.trans s12).trans s13).trans t14)
 have hz:=GA.sb hz ((s12.trans s13).trans t14)
 have ha:=GA.sb ha (s13.trans t14)
 have hb:=GA.sb hb t14
 have s814:=t9.trans s914
 have hbkY:=hbk08.sb0 s814
 have hbkZ:=hbk1.sb0 s814
 have s0:=s08.trans s814
 generalize upd H13 SL (.lst [av,bv])=G0 at t14 hSL hRL hx hz ha hb hbkY hbkZ s0 s914 s814
 refine nameZ ?_
 have hx:GA K G0 xv grX:=hx
 have hz:GA K G0 zv grZ:=hz
 have ha:GA K G0 av grA:=ha
 have hb:GA K G0 bv grB:=hb
 clear t14 s914 s814 s08 s13 s12 s11 s10 hRL9 t9 hbk08 hbk1
 have hS0:=hS.sb0 s0
 obtain ⟨ende,rkin⟩:=hS.rk
 have nmc:=hS.nm
 have HX:Hnd K C_Book G0 (.ref bk0) xv bkY grX bkY.names:=⟨hbkY,bkY_ok,hx,by decide,by decide,named_X,by decide⟩
 have HZ:Hnd K C_Book G0 (.ref bk1) zv bkZ grZ bkZ.names:=⟨hbkZ,bkZ_ok,hz,by decide,by decide,named_Z,by decide⟩
 have HA:Hnd K C_Book G0 (.ref bk0) av bkY grA ["ab","y"]:=⟨hbkY,bkY_ok,ha,by decide,by decide,namedA,by decide⟩
 have HB:Hnd K C_Book G0 (.ref bk1) bv bkZ grB ["aa","z"]:=⟨hbkZ,bkZ_ok,hb,by decide,by decide,namedB,by decide⟩
 have HS:Hnd K C_Book G0 (.ref k) w c g c.names:=hS0.hnd
 clear hbkY hbkZ hx hz ha hb
 have u:SB [] G0 G0:=SB.refl
 refine ⟨_,rfl,_,rfl,RL,_,_,_,rfl,rfl,SqL.of (u.keep _ _ hRL nmn),atI_nat (j:=0) rfl,_,rfl,_,rfl,RL,_,_,_,rfl,rfl,SqL.of (u.keep _ _ hRL nmn),atI_nat (j:=1) rfl,_,rfl,way,_,_,_,_,_,_,_,_,_,_,.endl "x",rfl,HX.sb0 u,HZ.sb0 u,.e1 named_X named_Z least_x,(fun z=>nomatch z),fun T0 G1 u0 hT0=>?_⟩
 have u:=u.trans u0
 refine ⟨_,rfl,_,rfl,RL,_,_,_,rfl,rfl,SqL.of (u.keep _ _ hRL nmn),atI_nat (j:=0) rfl,_,rfl,_,rfl,RL,_,_,_,rfl,rfl,SqL.of (u.keep _ _ hRL nmn),atI_nat (j:=1) rfl,_,rfl,SL,_,_,_,rfl,rfl,SqL.of (u.keep _ _ hSL nmn),atI_nat (j:=1) rfl,way,_,_,_,_,_,_,_,_,_,_,.kind "aa",rfl,HX.sb0 u,HB.sb0 u,.k2 named_X least_aa,(fun z=>nomatch z),fun T1 G2 u1 hT1=>?_⟩
 have hT0:=u1.sqT hT0
 have u:=u.trans u1
 refine ⟨_,rfl,_,rfl,RL,_,_,_,rfl,rfl,SqL.of (u.keep _ _ hRL nmn),atI_nat (j:=0) rfl,_,rfl,SL,_,_,_,rfl,rfl,SqL.of (u.keep _ _ hSL nmn),atI_nat (j:=0) rfl,_,rfl,RL,_,_,_,rfl,rfl,SqL.of (u.keep _ _ hRL nmn),atI_nat (j:=1) rfl,_,rfl,SL,_,_,_,rfl,rfl,SqL.of (u.keep _ _ hSL nmn),atI_nat (j:=1) rfl,way,_,_,_,_,_,_,_,_,_,_,.kind "ab",rfl,HA.sb0 u,HB.sb0 u,.k1 least_ab,(fun z=>nomatch z),fun T2 G3 u2 hT2=>?_⟩
 have hT0:=u2.sqT hT0
 have hT1:=u2.sqT hT1
 have u:=u.trans u2
 refine ⟨_,rfl,_,rfl,_,rfl,_,rfl,RL,_,_,_,rfl,rfl,SqL.of (u.keep _ _ hRL nmn),atI_nat (j:=1) rfl,_,rfl,way,_,_,_,_,_,_,_,_,_,_,.endl "z",rfl,HS.sb0 u,HZ.sb0 u,.e2 nmc named_Z ende least_z,(fun z=>nomatch z),fun T3 G4 u3 hT3=>?_⟩
 have hT0:=u3.sqT hT0
 have hT1:=u3.sqT hT1
 have hT2:=u3.sqT hT2
 have u:=u.trans u3
 refine ⟨_,rfl,_,rfl,RL,_,_,_,rfl,rfl,SqL.of (u.keep _ _ hRL nmn),atI_nat (j:=1) rfl,_,rfl,_,rfl,_,rfl,way,_,_,_,_,_,_,_,_,_,_,.endl "z",rfl,HZ.sb0 u,HS.sb0 u,.e1 named_Z nmc least_z,(fun z=>nomatch z),fun T4 G5 u4 hT4=>?_⟩
 have hT0:=u4.sqT hT0
 have hT1:=u4.sqT hT1
 have hT2:=u4.sqT hT2
 have hT3:=u4.sqT hT3
 have u:=u.trans u4
 refine ⟨_,rfl,_,rfl,_,rfl,_,rfl,_,rfl,way,_,_,_,_,_,_,_,_,_,_,.fine,rfl,HS.sb0 u,HS.sb0 u,.fine nmc nmc ende ende,(fun _=>⟨_,_,rkin,rkin⟩),fun T5 G6 u5 hT5=>?_⟩
 have hT0:=u5.sqT hT0
 have hT1:=u5.sqT hT1
 have hT2:=u5.sqT hT2
 have hT3:=u5.sqT hT3
 have hT4:=u5.sqT hT4
 have u:=u.trans u5
 refine ⟨by show 6<=sizeLine; decide,fun M nM=>?_⟩
 have w0:=SB.new (ps:=[]) nM (.lst [.ref T0,.ref T1,.ref T2,.ref T3,.ref T4,.ref T5])
 have hM:upd G6 M (.lst [.ref T0,.ref T1,.ref T2,.ref T3,.ref T4,.ref T5]) M=some (.lst [.ref T0,.ref T1,.ref T2,.ref T3,.ref T4,.ref T5]):=upd_same
 have hT0:=w0.sqT hT0
 have hT1:=w0.sqT hT1
 have hT2:=w0.sqT hT2
 have hT3:=w0.sqT hT3
 have hT4:=w0.sqT hT4
 have hT5:=w0.sqT hT5
 have u:=u.trans w0
 generalize upd G6 M (.lst [.ref T0,.ref T1,.ref T2,.ref T3,.ref T4,.ref T5])=W at w0 hM hT0 hT1 hT2 hT3 hT4 hT5 u
 have dM:Dp K W (.ref M) (.list [.tuple (Ho.endl "x").ds,.tuple (Ho.kind "aa").ds,.tuple (Ho.kind "ab").ds,.tuple (Ho.endl "z").ds,.tuple (Ho.endl "z").ds,.tuple Ho.fine.ds]):=.lst (SqL.of hM) (.cons (.tup hT0 (Ho.dp K W _)) (.cons (.tup hT1 (Ho.dp K W _)) (.cons (.tup hT2 (Ho.dp K W _)) (.cons (.tup hT3 (Ho.dp K W _)) (.cons (.tup hT4 (Ho.dp K W _)) (.cons (.tup hT5 (Ho.dp K W _)) .nil))))))
 clear hT0 hT1 hT2 hT3 hT4 hT5 hM w0
 refine ⟨by show 2<=sizeLine; decide,fun a0 na0=>?_⟩
 have v0:=SB.new (ps:=[]) na0 (.tup [.str "endless",.str "x"])
 have ha0:SqT K (upd W a0 (.tup [.str "endless",.str "x"])) a0 [.str "endless",.str "x"]:=SqT.of upd_same
 have u:=u.trans v0
 have wv:=v0
 generalize upd W a0 (.tup [.str "endless",.str "x"])=W0 at v0 ha0 u wv
 refine ⟨by show 2<=sizeLine; decide,fun a1 na1=>?_⟩
 have v1:=SB.new (ps:=[]) na1 (.tup [.str "kind",.str "aa"])
 have ha1:SqT K (upd W0 a1 (.tup [.str "kind",.str "aa"])) a1 [.str "kind",.str "aa"]:=SqT.of upd_same
 have ha0:=v1.sqT ha0
 have u:=u.trans v1
 have wv:=wv.trans v1
 generalize upd W0 a1 (.tup [.str "kind",.str "aa"])=W1 at v1 ha0 ha1 u wv
 refine ⟨by show 2<=sizeLine; decide,fun a2 na2=>?_⟩
 have v2:=SB.new (ps:=[]) na2 (.tup [.str "kind",.str "ab"])
 have ha2:SqT K (upd W1 a2 (.tup [.str "kind",.str "ab"])) a2 [.str "kind",.str "ab"]:=SqT.of upd_same
 have ha0:=v2.sqT ha0
 have ha1:=v2.sqT ha1
 have u:=u.trans v2
 have wv:=wv.trans v2
 generalize upd W1 a2 (.tup [.str "kind",.str "ab"])=W2 at v2 ha0 ha1 ha2 u wv
 refine ⟨by show 2<=sizeLine; decide,fun a3 na3=>?_⟩
 have v3:=SB.new (ps:=[]) na3 (.tup [.str "endless",.str "z"])
 have ha3:SqT K (upd W2 a3 (.tup [.str "endless",.str "z"])) a3 [.str "endless",.str "z"]:=SqT.of upd_same
 have ha0:=v3.sqT ha0
 have ha1:=v3.sqT ha1
 have ha2:=v3.sqT ha2
 have u:=u.trans v3
 have wv:=wv.trans v3
 generalize upd W2 a3 (.tup [.str "endless",.str "z"])=W3 at v3 ha0 ha1 ha2 ha3 u wv
 refine ⟨by show 2<=sizeLine; decide,fun a4 na4=>?_⟩
 have v4:=SB.new (ps:=[]) na4 (.tup [.str "endless",.str "z"])
 have ha4:SqT K (upd W3 a4 (.tup [.str "endless",.str "z"])) a4 [.str "endless",.str "z"]:=SqT.of upd_same
 have ha0:=v4.sqT ha0
 have ha1:=v4.sqT ha1
 have ha2:=v4.sqT ha2
 have ha3:=v4.sqT ha3
 have u:=u.trans v4
 have wv:=wv.trans v4
 generalize upd W3 a4 (.tup [.str "endless",.str "z"])=W4 at v4 ha0 ha1 ha2 ha3 ha4 u wv
 refine ⟨by show 2<=sizeLine; decide,fun a5 na5=>?_⟩
 have v5:=SB.new (ps:=[]) na5 (.tup [.str "none",.str ""])
 have ha5:SqT K (upd W4 a5 (.tup [.str "none",.str ""])) a5 [.str "none",.str ""]:=SqT.of upd_same
 have ha0:=v5.sqT ha0
 have ha1:=v5.sqT ha1
 have ha2:=v5.sqT ha2
 have ha3:=v5.sqT ha3
 have ha4:=v5.sqT ha4
 have u:=u.trans v5
 have wv:=wv.trans v5
 generalize upd W4 a5 (.tup [.str "none",.str ""])=W5 at v5 ha0 ha1 ha2 ha3 ha4 ha5 u wv
 refine ⟨by show 6<=sizeLine; decide,fun M2 nM2=>?_⟩
 have v6:=SB.new (ps:=[]) nM2 (.lst [.ref a0,.ref a1,.ref a2,.ref a3,.ref a4,.ref a5])
 have wv6:=wv.trans v6
 refine ⟨_,_,Dp_s0 wv6 _ _ dM,.lst (SqL.of upd_same) (.cons (.tup (v6.sqT ha0) (Ho.dp K _ (.endl "x"))) (.cons (.tup (v6.sqT ha1) (Ho.dp K _ (.kind "aa"))) (.cons (.tup (v6.sqT ha2) (Ho.dp K _ (.kind "ab"))) (.cons (.tup (v6.sqT ha3) (Ho.dp K _ (.endl "z"))) (.cons (.tup (v6.sqT ha4) (Ho.dp K _ (.endl "z"))) (.cons (.tup (v6.sqT ha5) (Ho.dp K _ (.fine))) .nil)))))),by decide +kernel,by decide +kernel,?_⟩
 rw [show PyData.eqv (.list [.tuple (Ho.endl "x").ds,.tuple (Ho.kind "aa").ds,.tuple (Ho.kind "ab").ds,.tuple (Ho.endl "z").ds,.tuple (Ho.endl "z").ds,.tuple Ho.fine.ds]) (.list [.tuple (Ho.endl "x").ds,.tuple (Ho.kind "aa").ds,.tuple (Ho.kind "ab").ds,.tuple (Ho.endl "z").ds,.tuple (Ho.endl "z").ds,.tuple Ho.fine.ds])=true by decide +kernel]
 exact q _ (s0.trans (u.trans v6))
abbrev N_law:List Str:=["_law_script","_law_pot_here","_law_one","_law_other","_law_first","_law_second","_law_turn","_law_found","_law_back","_law_kind","_law_third","_law_more","_law_grove","_law_ladder"]
theorem sc_law:FnScope N_law ["_law_script"] (defScope s_law):=⟨rfl,rfl,rfl,by decide +kernel,rfl,by decide +kernel,by decide +kernel⟩
theorem ok_law {C_Book C_NoKind C_Endless:Addr} (B:BI mg) (G__law_pot:Got P w K mg base "_law_pot" ["_law_script"] (1) (spPot K)) (G__law_two:Got P w K mg base "_law_two" ["_law_pot_here"] (92) (spTwo57 K C_Book)) (G__law_rank:Got P w K mg base "_law_rank" ["_law_book","_law_known","_law_grove"] (220) (spRkR K 177)) (G_outlasts:GotX P w K mg base "outlasts" ["book","grove","other_book","other"] (75) (spOutl K C_Book C_NoKind C_Endless)) (G__law_less:Got P w K mg base "_law_less" ["_law_one","_law_other"] (40) (spLLess K 40)) (G__law_grove_of:Got P w K mg base "_law_grove_of" ["_law_pairs"] (1) (spTidyG K)) (G__law_refused:Got P w K mg base "_law_refused" ["_law_way","_law_made","_law_grove"] (98) (spRefd57 K C_Book)) (F:Fun K "law" "law" s_law f fd):FnOk P w K mg base CX0 (230) f fd ["_law_script"] (spLaw K):=by
 refine F.ok sc_law (fun vs H Q E h=>?_) (fun cdv A outer s H vs Q E hr h=>?_)
 ·obtain ⟨a,ns,rfl,_⟩:=h
  rfl
 obtain ⟨a,ns,rfl,hs,nl,q⟩:=h
 have hun2:=hunT hr
 refine ⟨_,pss_cons (ps_set (i:=1) sc_law.nd rfl (.inl rfl) (pe_got G__law_pot (hr.mono (by omega)) rfl (pa_cons (pv 0) pa_nil)))
  (pss_cons (ps_asg (pe_got G__law_two (hr.mono (by omega)) rfl (pa_cons (pv 1) pa_nil)) (pg_unl rfl (pgs_cons (pg_name (i:=2) sc_law.nd rfl (.inl rfl)) (pgs_cons (pg_name (i:=3) sc_law.nd rfl (.inl rfl)) pgs_nil))))
  (pss_cons (ps_set (i:=4) sc_law.nd rfl (.inl rfl) (pe_got G__law_rank (hr.mono (by omega)) rfl (pa_cons (pe_ix ix_list (pv 2) pe_int (fun _ _=>rfl)) (pa_cons pe_dnewK (pa_cons (pe_ix ix_list (pv 2) pe_int (fun _ _=>rfl)) pa_nil)))))
  (pss_cons (ps_set (i:=5) sc_law.nd rfl (.inl rfl) (pe_got G__law_rank (hr.mono (by omega)) rfl (pa_cons (pe_ix ix_list (pv 3) pe_int (fun _ _=>rfl)) (pa_cons pe_dnewK (pa_cons (pe_ix ix_list (pv 3) pe_int (fun _ _=>rfl)) pa_nil)))))
  (pss_cons (ps_for PassesOwn.never rfl (pi_range1 rfl B.range (pa_cons pe_int pa_nil)) (pg_name (i:=6) sc_law.nd rfl (.inl rfl))
   (pss_cons (ps_set (i:=7) sc_law.nd rfl (.inl rfl) (pe_gotX G_outlasts (hr.mono (by omega)) rfl (pa_cons (pe_ix ix_list (pv 2) pe_int (fun _ _=>rfl)) (pa_cons (pe_ix ix_list (pv 2) pe_int (fun _ _=>rfl)) (pa_cons (pe_ix ix_list (pv 3) pe_int (fun _ _=>rfl)) (pa_cons (pe_ix ix_list (pv 3) pe_int (fun _ _=>rfl)) pa_nil))))))
  (pss_cons (ps_set (i:=8) sc_law.nd rfl (.inl rfl) (pe_gotX G_outlasts (hr.mono (by omega)) rfl (pa_cons (pe_ix ix_list (pv 3) pe_int (fun _ _=>rfl)) (pa_cons (pe_ix ix_list (pv 3) pe_int (fun _ _=>rfl)) (pa_cons (pe_ix ix_list (pv 2) pe_int (fun _ _=>rfl)) (pa_cons (pe_ix ix_list (pv 2) pe_int (fun _ _=>rfl)) pa_nil))))))
  (pss_cons (ps_if (PW.pt (pw_or (pt_not (pt_val (pe_isi B (pv 7) B.bool boot_bool))) (pw_or1 (pt_cmpR op_ne (pv 7) (pe_got G__law_less (hr.mono (by omega)) rfl (pa_cons (pv 5) (pa_cons (pv 4) pa_nil))) (nomark _))))) (pss_one (ps_ret pe_bl)) pss_nil)
  (pss_one (ps_if (PW.pt (pw_or (pt_not (pt_val (pe_isi B (pv 8) B.bool boot_bool))) (pw_or1 (pt_cmpR op_ne (pv 8) (pe_got G__law_less (hr.mono (by omega)) rfl (pa_cons (pv 4) (pa_cons (pv 5) pa_nil))) (nomark _))))) (pss_one (ps_ret pe_bl)) pss_nil))))))
  (pss_cons (ps_set (i:=9) sc_law.nd rfl (.inl rfl) (pe_ix ix_list (pe_callTy (call_listD rfl) rfl B.list boot_list (pa_cons (pe_ix ix_list (pv 3) pe_int (fun _ _=>rfl)) pa_nil)) pe_int (fun _ _=>rfl)))
  (pss_cons (ps_set (i:=10) sc_law.nd rfl (.inl rfl) (pe_got G__law_grove_of (hr.mono (by omega)) rfl (pa_cons (pe_op op_cat (pe_callTy call_list_of rfl B.list boot_list (pa_cons (pe_ix ix_list (pv 3) pe_int (fun _ _=>rfl)) pa_nil)) (pe_lst (pa_cons (pe_tup (pa_cons (pe_tup (pa_cons (pv 9) (pa_cons (pe_tup pa_nil) pa_nil))) (pa_cons pe_int pa_nil))) pa_nil))) pa_nil)))
  (pss_cons (ps_set (i:=11) sc_law.nd rfl (.inl rfl) (pe_got G__law_rank (hr.mono (by omega)) rfl (pa_cons (pe_ix ix_list (pv 3) pe_int (fun _ _=>rfl)) (pa_cons pe_dnewK (pa_cons (pv 10) pa_nil)))))
  (pss_cons (ps_for PassesOwn.never rfl (pi_list (pe_lst (pa_cons (pe_tup (pa_cons (pv 10) (pa_cons (pv 11) pa_nil))) (pa_cons (pe_tup (pa_cons (pe_ix ix_list (pv 3) pe_int (fun _ _=>rfl)) (pa_cons (pv 5) pa_nil))) (pa_cons (pe_tup (pa_cons (pe_tup pa_nil) (pa_cons (pe_tup pa_nil) pa_nil))) pa_nil))))) (pg_tup rfl (pgs_cons (pg_name (i:=12) sc_law.nd rfl (.inl rfl)) (pgs_cons (pg_name (i:=13) sc_law.nd rfl (.inl rfl)) pgs_nil)))
   (pss_cons (ps_set (i:=7) sc_law.nd rfl (.inl rfl) (pe_gotX G_outlasts (hr.mono (by omega)) rfl (pa_cons (pe_ix ix_list (pv 2) pe_int (fun _ _=>rfl)) (pa_cons (pe_ix ix_list (pv 2) pe_int (fun _ _=>rfl)) (pa_cons (pe_ix ix_list (pv 3) pe_int (fun _ _=>rfl)) (pa_cons (pv 12) pa_nil))))))
  (pss_one (ps_if (PW.pt (pw_or (pt_not (pt_val (pe_isi B (pv 7) B.bool boot_bool))) (pw_or1 (pt_cmpR op_ne (pv 7) (pe_got G__law_less (hr.mono (by omega)) rfl (pa_cons (pv 13) (pa_cons (pv 4) pa_nil))) (nomark _))))) (pss_one (ps_ret pe_bl)) pss_nil))))
  (pss_one (ps_ret (pe_and (pe_got G__law_refused (hr.mono (by omega)) rfl (pa_cons pe_int (pa_cons (pe_ix ix_list (pv 2) pe_int (fun _ _=>rfl)) (pa_cons (pe_ix ix_list (pv 2) pe_int (fun _ _=>rfl)) pa_nil)))) (pe_one (pe_got G__law_refused (hr.mono (by omega)) rfl (pa_cons pe_int (pa_cons (pe_ix ix_list (pv 2) pe_int (fun _ _=>rfl)) (pa_cons (pe_ix ix_list (pv 2) pe_int (fun _ _=>rfl)) pa_nil)))))))))))))))),?_⟩
 have szl:=sizeLine_eq
 refine ⟨_,rfl,a,ns,rfl,hs,nl,fun p H1 s1 np hp=>?_⟩
 obtain ⟨cl,hp⟩:=PotC.of hp
 refine nameI ?_
 refine ⟨_,rfl,p,cl,rfl,hp,fun L A B d e k m v w b b' c c' g g' H2 s2 hp2 hL hA hB SA SB'=>?_⟩
 refine ⟨L,_,rfl,SqL.of hL,rfl,_,_,rfl,_,_,rfl,rfl,?_⟩
 have s02:SB [] H H2:=((s1.nil (ps:=[p])).trans s2).drop np
 clear hp hp2 s1 s2 hL
 have oA:g.Ok (2 ^ 119):=SA.go.mono (by decide)
 have oB:g'.Ok (2 ^ 119):=SB'.go.mono (by decide)
 have pA:=SA.parts
 have pB:=SB'.parts
 have eA:=SA.deep
 have eB:=SB'.deep
 obtain ⟨endA,rkA,rdA⟩:=SA.rkd oA (by omega) (by omega) SA.nm
 obtain ⟨endB,rkB,rdB⟩:=SB'.rkd oB (by omega) (by omega) SB'.nm
 refine ⟨_,rfl,A,_,_,_,rfl,rfl,SqL.of hA,atI_nat (j:=0) rfl,fun e1 ne1=>?_⟩
 refine ⟨_,rfl,A,_,_,_,rfl,rfl,SqL.of ((SB.new (ps:=[]) ne1 (.dK [])).keep _ _ hA nmn),atI_nat (j:=2) rfl,?_⟩
 refine Sd.lawrank (E:=L2.E0) SA ne1 SA.ga oA (by omega) (by omega) SA.nm fun x1 H3 s3 hx1=>?_
 refine nameI ?_
 have SA3:=SA.sb0 s3
 have SB3:=SB'.sb0 s3
 have hA3:=s3.keep _ _ hA nmn
 have hB3:=s3.keep _ _ hB nmn
 refine ⟨_,rfl,B,_,_,_,rfl,rfl,SqL.of hB3,atI_nat (j:=0) rfl,fun e2 ne2=>?_⟩
 refine ⟨_,rfl,B,_,_,_,rfl,rfl,SqL.of ((SB.new (ps:=[]) ne2 (.dK [])).keep _ _ hB3 nmn),atI_nat (j:=2) rfl,?_⟩
 refine Sd.lawrank (E:=L2.E0) SB3 ne2 SB3.ga oB (by omega) (by omega) SB'.nm fun x2 H4 s4 hx2=>?_
 refine nameI ?_
 have SA4:=SA3.sb0 s4
 have SB4:=SB3.sb0 s4
 have hA4:=s4.keep _ _ hA3 nmn
 have hB4:=s4.keep _ _ hB3 nmn
 have hx14:=hx1.sb s4
 have s04:=(s02.trans s3).trans s4
 clear hx1 SA3 SB3 hA3 hB3 s3 s4 hA hB SA SB' s02
 generalize hlA:Gr.rk c (ownOf c) g=lA at hx14 rdA
 generalize hlB:Gr.rk c' (ownOf c') g'=lB at hx2 rdB
 have hnA:=SA4.nm
 have hnB:=SB4.nm
 have HA:Hnd K C_Book H4 (.ref k) v c g c.names:=SA4.hnd
 have HB:Hnd K C_Book H4 (.ref m) w c' g' c'.names:=SB4.hnd
 refine ⟨2,rfl,by decide,by decide,?_⟩
 refine for_it (walk_range (lo:=0) (n:=2)) (fun i σ G=>SB [] H4 G/\∃ o6 o7 o8:Option V,σ=[some (.ref a),some (.ref p),some (.ref A),some (.ref B),some x1,some x2,o6,o7,o8,none,none,none,none,none]) ⟨SB.refl,none,none,none,rfl⟩ (fun _ _ _ _ _=>trivial) (fun i x σ G G' hi h y=>?_) (fun σ G h=>?_)
 ·obtain ⟨s5,o6,o7,o8,rfl⟩:=h
  obtain ⟨rfl,rfl⟩:=y
  have hA5:=s5.keep _ _ hA4 nmn
  have hB5:=s5.keep _ _ hB4 nmn
  refine ⟨_,rfl,A,_,_,_,rfl,rfl,SqL.of hA5,atI_nat (j:=1) rfl,_,rfl,A,_,_,_,rfl,rfl,SqL.of hA5,atI_nat (j:=2) rfl,_,rfl,B,_,_,_,rfl,rfl,SqL.of hB5,atI_nat (j:=1) rfl,_,rfl,B,_,_,_,rfl,rfl,SqL.of hB5,atI_nat (j:=2) rfl,?_⟩
  refine nilI ?_
  show spOutl K C_Book C_NoKind C_Endless _ _ _ _
  refine ⟨_,_,_,_,_,_,_,_,_,_,.fine,rfl,HA.sb0 s5,HB.sb0 s5,.fine hnA hnB endA endB,ownOf c,ownOf c',rkA,rkB,fun H6 s6=>?_⟩
  rw [hlA,hlB]
  refine nameI ?_
  have s56:=s5.trans s6
  have hA6:=s6.keep _ _ hA5 nmn
  have hB6:=s6.keep _ _ hB5 nmn
  refine ⟨_,rfl,B,_,_,_,rfl,rfl,SqL.of hB6,atI_nat (j:=1) rfl,_,rfl,B,_,_,_,rfl,rfl,SqL.of hB6,atI_nat (j:=2) rfl,_,rfl,A,_,_,_,rfl,rfl,SqL.of hA6,atI_nat (j:=1) rfl,_,rfl,A,_,_,_,rfl,rfl,SqL.of hA6,atI_nat (j:=2) rfl,?_⟩
  refine nilI ?_
  show spOutl K C_Book C_NoKind C_Endless _ _ _ _
  refine ⟨_,_,_,_,_,_,_,_,_,_,.fine,rfl,HB.sb0 s56,HA.sb0 s56,.fine hnB hnA endB endA,ownOf c',ownOf c,rkB,rkA,fun H7 s7=>?_⟩
  rw [hlA,hlB]
  refine nameI ?_
  have s57:=s56.trans s7
  refine ⟨_,rfl,_,_,"bool",true,rfl,.base (.bl _),by decide +kernel,_,rfl,iteF ?_⟩
  refine ⟨_,rfl,_,rfl,_,rfl,x2,x1,lB,lA,rfl,hx2.sb s57,hx14.sb s57,by omega,by omega,by omega,fun H8 s8=>?_⟩
  refine ⟨rfl,_,rfl,?_⟩
  rw [decide_eq_true rfl]
  refine iteF (nextI ?_)
  have s58:=s57.trans s8
  refine ⟨_,rfl,_,_,"bool",true,rfl,.base (.bl _),by decide +kernel,_,rfl,iteF ?_⟩
  refine ⟨_,rfl,_,rfl,_,rfl,x1,x2,lA,lB,rfl,hx14.sb s58,hx2.sb s58,by omega,by omega,by omega,fun H9 s9=>?_⟩
  refine ⟨rfl,_,rfl,?_⟩
  rw [decide_eq_true rfl]
  exact iteF ⟨s58.trans s9,_,_,_,rfl⟩
 ·obtain ⟨s5,o6,o7,o8,rfl⟩:=h
  have hA5:=s5.keep _ _ hA4 nmn
  have hB5:=s5.keep _ _ hB4 nmn
  have SA5:=SA4.sb0 s5
  have SB5:=SB4.sb0 s5
  have hx15:=hx14.sb s5
  have hx25:=hx2.sb s5
  have s05:=s04.trans s5
  clear HA HB hA4 hB4 SA4 SB4 hx14 hx2 s5 s04
  have b4:=SB5.dr.len
  have b1:=SB5.dr.ok.pos
  have bok:=SB5.dr.ok
  have bnl:b'.names.length=b'.length:=List.length_map ..
  obtain ⟨us,hd5,hpl⟩:=SB5.dk
  have ul:=hpl.length
  have ekn:(nKV b'.names us).map (fun kv=>kV kv.1)=b'.names.map V.str:=by
   have h:=zk_keys (ns:=b'.names) (us:=us) (by omega)
   have h2:=congrArg (List.map kV) h
   rw [List.map_map,List.map_map] at h2
   exact h2
  obtain ⟨kn,ekn5⟩:∃ kn,b'.names[0]?=some kn:=⟨_,List.getElem?_eq_getElem (by omega)⟩
  have knm:=List.mem_of_getElem? ekn5
  have kno:=bok.names kn knm
  refine ⟨_,rfl,B,_,_,_,rfl,rfl,SqL.of hB5,atI_nat (j:=0) rfl,e,_,rfl,.inl hd5,fun N nN=>?_⟩
  rw [ekn]
  have t6:=SB.new (ps:=[]) nN (.lst (b'.names.map V.str))
  have hN6:upd G N (.lst (b'.names.map V.str)) N=some (.lst (b'.names.map V.str)):=upd_same
  have hA6:=t6.keep _ _ hA5 nmn
  have hB6:=t6.keep _ _ hB5 nmn
  have SA6:=SA5.sb0 t6
  have SB6:=SB5.sb0 t6
  have hx16:=hx15.sb t6
  have hx26:=hx25.sb t6
  have s06:=s05.trans t6
  generalize upd G N (.lst (b'.names.map V.str))=G6 at t6 hN6 hA6 hB6 SA6 SB6 hx16 hx26 s06
  clear hA5 hB5 SA5 SB5 hx15 hx25 s05 hd5 hpl t6
  refine ⟨N,_,_,_,rfl,rfl,SqL.of hN6,atI_nat (j:=0) (by rw [List.getElem?_map,ekn5]; rfl),?_⟩
  refine nameI ?_
  obtain ⟨ga,gxs,rfl,hga,hgb⟩:=GA_bears SB6.ga
  have gxl:=hgb.length
  have glp:=g'.len_parts
  refine ⟨_,rfl,B,_,_,_,rfl,rfl,SqL.of hB6,atI_nat (j:=2) rfl,ga,gxs,rfl,.inr hga,fun l1 nl1=>?_⟩
  have q1:=SB.new (ps:=[]) nl1 (.lst gxs)
  have hl1:upd G6 l1 (.lst gxs) l1=some (.lst gxs):=upd_same
  have hgb1:=hgb.sb q1 Gr.noList_pEnc
  generalize upd G6 l1 (.lst gxs)=Q1 at q1 hl1 hgb1
  refine ⟨_,rfl,by show 0<=sizeLine; decide,fun z1 nz1=>?_⟩
  have w1':=SB.new (ps:=[]) nz1 (.tup [])
  have hz1:SqT K (upd Q1 z1 (.tup [])) z1 []:=SqT.of upd_same
  generalize upd Q1 z1 (.tup [])=W1 at w1' hz1
  refine ⟨by show 2<=sizeLine; decide,fun z2 nz2=>?_⟩
  have w2':=SB.new (ps:=[]) nz2 (.tup [.str kn,.ref z1])
  have hz2:SqT K (upd W1 z2 (.tup [.str kn,.ref z1])) z2 [.str kn,.ref z1]:=SqT.of upd_same
  have hz12:=w2'.sqT hz1
  have w12:=w1'.trans w2'
  generalize upd W1 z2 (.tup [.str kn,.ref z1])=W2 at w2' hz2 hz12 w12
  refine ⟨by show 2<=sizeLine; decide,fun z3 nz3=>?_⟩
  have w3':=SB.new (ps:=[]) nz3 (.tup [.ref z2,.int 1])
  have hz3:SqT K (upd W2 z3 (.tup [.ref z2,.int 1])) z3 [.ref z2,.int 1]:=SqT.of upd_same
  have ht3:Dp K (upd W2 z3 (.tup [.ref z2,.int 1])) (.ref z3) (Gr.pEnc ((kn,.nil),1)):=.tup hz3 (.cons (.tup (w3'.sqT hz2) (.cons (.str _) (.cons (GA_nil (w3'.sqT hz12)) .nil))) (.cons (.int _) .nil))
  have w13:=w12.trans w3'
  generalize upd W2 z3 (.tup [.ref z2,.int 1])=W3 at w3' hz3 ht3 w13
  refine ⟨by show 1<=sizeLine; decide,fun l2 nl2=>?_⟩
  have q5:=SB.new (ps:=[]) nl2 (.lst [.ref z3])
  have h5:upd W3 l2 (.lst [.ref z3]) l2=some (.lst [.ref z3]):=upd_same
  have ht5:=Dp_sb q5 _ _ (Gr.noList_pEnc _) ht3
  have q15:=w13.trans q5
  have hl5:=q15.keep _ _ hl1 nmn
  have hgb5:=hgb1.sb q15 Gr.noList_pEnc
  generalize upd W3 l2 (.lst [.ref z3])=Q5 at q5 h5 ht5 q15 hl5 hgb5
  refine ⟨l1,l2,_,_,rfl,rfl,hl5,h5,by show gxs.length+1<=sizeLine; omega,fun l3 nl3=>?_⟩
  have q6:=SB.new (ps:=[]) nl3 (.lst (gxs++[.ref z3]))
  have h6:upd Q5 l3 (.lst (gxs++[.ref z3])) l3=some (.lst (gxs++[.ref z3])):=upd_same
  have hb6:Bears K (upd Q5 l3 (.lst (gxs++[.ref z3]))) Gr.pEnc (gxs++[.ref z3]) (g'.ps++[((kn,.nil),1)]):=(hgb5.sb q6 Gr.noList_pEnc).append (.cons (Dp_sb q6 _ _ (Gr.noList_pEnc _) ht5) .nil)
  have q16:=(q1.trans q15).trans q6
  generalize upd Q5 l3 (.lst (gxs++[.ref z3]))=Q6 at q6 h6 hb6 q16
  clear w1' hz1 w2' hz2 hz12 w12 w3' hz3 ht3 w13 q5 h5 ht5 q15 hl5 hgb5 hl1 hgb1
  have kc:kn ∈ c'.names:=by
   rcases SB6.tr with e | e
   ·rw [e]; exact knm
   ·rw [e,Bk.names,List.map_reverse]; exact List.mem_reverse.mpr knm
  obtain ⟨eL,eC,eD,eP,eN,eO⟩:=one_more (g:=g') (kn:=kn) (ns:=c'.names) SB6.go pB eB kno SB6.nm kc
  refine ⟨l3,_,_,rfl,.inl (SqL.of h6),hb6,eL,⟨2 ^ 100,eC⟩,fun ev Q7 q7 hev=>?_⟩
  generalize Gr.tidy (g'.ps++[((kn,Gr.nil),(1:Int))])=ge at hev eD eP eN eO
  refine nameI ?_
  clear hb6 h6 eL eC
  have q67:=q16.trans q7
  have hA7:=q67.keep _ _ hA6 nmn
  have hB7:=q67.keep _ _ hB6 nmn
  have SA7:=SA6.sb0 q67
  have SB7:=SB6.sb0 q67
  have hx17:=hx16.sb q67
  have hx27:=hx26.sb q67
  have s07:=s06.trans q67
  clear hA6 hB6 SA6 SB6 hx16 hx26 s06 q1 q6 q16 q7 q67 hga hgb hN6
  refine ⟨_,rfl,B,_,_,_,rfl,rfl,SqL.of hB7,atI_nat (j:=0) rfl,fun e3 ne3=>?_⟩
  refine ⟨_,rfl,?_⟩
  refine Sd.lawrank (E:=L2.E0) SB7 ne3 hev eO eP (by omega) eN fun x3 H8 s8 hx3=>?_
  refine nameI ?_
  have hA8:=s8.keep _ _ hA7 nmn
  have hB8:=s8.keep _ _ hB7 nmn
  have SA8:=SA7.sb0 s8
  have SB8:=SB7.sb0 s8
  have hx18:=hx17.sb s8
  have hx28:=hx27.sb s8
  have hev8:=GA.sb hev s8
  have s08:=s07.trans s8
  clear hA7 hB7 SA7 SB7 hx17 hx27 hev s07 s8
  obtain ⟨endE,rkE,rdE⟩:=SB8.rkd eO eP (by omega) eN
  -- the groves told
  refine ⟨_,rfl,_,rfl,by show 2<=sizeLine; decide,fun T1 nT1=>?_⟩
  have v1:=SB.new (ps:=[]) nT1 (.tup [ev,x3])
  have hT1:SqT K (upd H8 T1 (.tup [ev,x3])) T1 [ev,x3]:=SqT.of upd_same
  have hB9:=v1.keep _ _ hB8 nmn
  generalize upd H8 T1 (.tup [ev,x3])=V1 at v1 hT1 hB9
  refine ⟨_,rfl,B,_,_,_,rfl,rfl,SqL.of hB9,atI_nat (j:=2) rfl,_,rfl,by show 2<=sizeLine; decide,fun T2 nT2=>?_⟩
  have v2:=SB.new (ps:=[]) nT2 (.tup [.ref ga,x2])
  have hT2:SqT K (upd V1 T2 (.tup [.ref ga,x2])) T2 [.ref ga,x2]:=SqT.of upd_same
  have hT1:=v2.sqT hT1
  have v12:=v1.trans v2
  generalize upd V1 T2 (.tup [.ref ga,x2])=V2 at v2 hT1 hT2 v12
  refine ⟨by show 0<=sizeLine; decide,fun z1 nz1=>?_⟩
  have v3:=SB.new (ps:=[]) nz1 (.tup [])
  have hz1:SqT K (upd V2 z1 (.tup [])) z1 []:=SqT.of upd_same
  generalize upd V2 z1 (.tup [])=V3 at v3 hz1
  refine ⟨by show 0<=sizeLine; decide,fun z2 nz2=>?_⟩
  have v4:=SB.new (ps:=[]) nz2 (.tup [])
  have hz2:SqT K (upd V3 z2 (.tup [])) z2 []:=SqT.of upd_same
  have hz1:=v4.sqT hz1
  generalize upd V3 z2 (.tup [])=V4 at v4 hz1 hz2
  refine ⟨by show 2<=sizeLine; decide,fun T3 nT3=>?_⟩
  have v5:=SB.new (ps:=[]) nT3 (.tup [.ref z1,.ref z2])
  have hT3:SqT K (upd V4 T3 (.tup [.ref z1,.ref z2])) T3 [.ref z1,.ref z2]:=SqT.of upd_same
  have hz1:=v5.sqT hz1
  have hz2:=v5.sqT hz2
  have v25:=(v3.trans v4).trans v5
  generalize upd V4 T3 (.tup [.ref z1,.ref z2])=V5 at v5 hT3 hz1 hz2 v25
  refine ⟨by show 3<=sizeLine; decide,fun LL nLL=>?_⟩
  have v6:=SB.new (ps:=[]) nLL (.lst [.ref T1,.ref T2,.ref T3])
  have hLL:upd V5 LL (.lst [.ref T1,.ref T2,.ref T3]) LL=some (.lst [.ref T1,.ref T2,.ref T3]):=upd_same
  have v26:=v25.trans v6
  have v16:=v12.trans v26
  have hT1:=v26.sqT hT1
  have hT2:=v26.sqT hT2
  have hT3:=v6.sqT hT3
  have hz1:=v6.sqT hz1
  have hz2:=v6.sqT hz2
  generalize upd V5 LL (.lst [.ref T1,.ref T2,.ref T3])=H9 at v6 hLL v26 v16 hT1 hT2 hT3 hz1 hz2
  have hA9:=v16.keep _ _ hA8 nmn
  have hB9:=v16.keep _ _ hB8 nmn
  have SA9:=SA8.sb0 v16
  have SB9:=SB8.sb0 v16
  have hx19:=hx18.sb v16
  have hx29:=hx28.sb v16
  have hx39:=hx3.sb v16
  have hev9:=GA.sb hev8 v16
  have s09:=s08.trans v16
  clear v1 v2 v3 v4 v5 v6 v12 v25 v26 v16 hA8 hB8 SA8 SB8 hx18 hx28 hx3 hev8 s08
  have rows:∀ (i:Nat) (x:V),[V.ref T1,V.ref T2,V.ref T3][i]?=some x->∃ (T:Addr) (u y:V) (h:Gr) (t:Lad),x=.ref T/\SqT K H9 T [u,y]/\GA K H9 u h/\LA K H9 y t/\t=Gr.rk c' (ownOf c') h/\h.Ok (2 ^ 119)/\h.parts<=8/\h.deep<=8/\Gr.Named c'.names h:=fun i x ex=>by
   match i,ex with
   | 0,ex=>cases ex; exact ⟨T1,_,_,_,_,rfl,hT1,hev9,hx39,rfl,eO,eP,eD,eN⟩
   | 1,ex=>cases ex; exact ⟨T2,_,_,_,_,rfl,hT2,SB9.ga,hx29,hlB.symm,oB,by omega,by omega,hnB⟩
   | 2,ex=>cases ex; exact ⟨T3,_,_,_,_,rfl,hT3,GA_nil hz1,LA_nil hz2,Gr.rk_nil.symm,trivial,by decide,by decide,fun x hx=>nomatch hx⟩
  have HA:Hnd K C_Book H9 (.ref k) v c g c.names:=SA9.hnd
  have HB:=SB9.hnd
  refine ⟨LL,rfl,⟨_,SqL.of hLL⟩,?_⟩
  refine for_it (walk_list (xs:=[.ref T1,.ref T2,.ref T3])) (fun i σ G=>SB [] H9 G/\∃ o7 o12 o13:Option V,σ=[some (.ref a),some (.ref p),some (.ref A),some (.ref B),some x1,some x2,o6,o7,o8,some (.str kn),some ev,some x3,o12,o13]) ⟨SB.refl,_,_,_,rfl⟩ (fun i σ G hi h=>h.1.sqL nmn (SqL.of hLL)) (fun i x σ Hq G hi h y=>?_) (fun σ G h=>?_)
  ·obtain ⟨s10,o7,o12,o13,rfl⟩:=h
   obtain ⟨rfl,ey⟩:=y
   obtain ⟨T,u,y,h,t,rfl,hT,hu,hy,et,ho,hpp,hdd,hn⟩:=rows i x ey
   obtain ⟨endH,rkH,rdH⟩:=SB9.rkd ho hpp hdd hn
   refine ⟨T,_,rfl,s10.sqT hT,rfl,_,_,rfl,_,_,rfl,rfl,?_⟩
   have hA10:=s10.keep _ _ hA9 nmn
   have hB10:=s10.keep _ _ hB9 nmn
   refine ⟨_,rfl,A,_,_,_,rfl,rfl,SqL.of hA10,atI_nat (j:=1) rfl,_,rfl,A,_,_,_,rfl,rfl,SqL.of hA10,atI_nat (j:=2) rfl,_,rfl,B,_,_,_,rfl,rfl,SqL.of hB10,atI_nat (j:=1) rfl,_,rfl,?_⟩
   refine nilI ?_
   show spOutl K C_Book C_NoKind C_Endless _ _ _ _
   have HH:Hnd K C_Book H9 (.ref m) u c' h c'.names:=⟨HB.bk,HB.ok,hu,by omega,by omega,hn,HB.nl⟩
   refine ⟨_,_,_,_,_,_,_,_,_,_,.fine,rfl,HA.sb0 s10,HH.sb0 s10,.fine hnA hn endA endH,ownOf c,ownOf c',rkA,rkH,fun H11 s11=>?_⟩
   rw [hlA,<- et]
   refine nameI ?_
   have s911:=s10.trans s11
   refine ⟨_,rfl,_,_,"bool",true,rfl,.base (.bl _),by decide +kernel,_,rfl,iteF ?_⟩
   rw [<- et] at rdH
   refine ⟨_,rfl,_,rfl,_,rfl,y,x1,t,lA,rfl,hy.sb s911,hx19.sb s911,by omega,by omega,by omega,fun H12 s12=>?_⟩
   refine ⟨rfl,_,rfl,?_⟩
   rw [decide_eq_true rfl]
   exact iteF ⟨s911.trans s12,_,_,_,rfl⟩
  obtain ⟨s10,o7,o12,o13,rfl⟩:=h
  have hA10:=s10.keep _ _ hA9 nmn
  refine ⟨_,rfl,A,_,_,_,rfl,rfl,SqL.of hA10,atI_nat (j:=1) rfl,_,rfl,A,_,_,_,rfl,rfl,SqL.of hA10,atI_nat (j:=2) rfl,0,d,k,v,b,c,g,rfl,SA9.sb0 s10,fun H11 s11=>?_⟩
  have hA11:=s11.keep _ _ hA10 nmn
  exact ⟨_,rfl,iteT ⟨_,rfl,A,_,_,_,rfl,rfl,SqL.of hA11,atI_nat (j:=1) rfl,_,rfl,A,_,_,_,rfl,rfl,SqL.of hA11,atI_nat (j:=2) rfl,1,d,k,v,b,c,g,rfl,SA9.sb0 (s10.trans s11),fun H12 s12=>q _⟩⟩
end
theorem facts {P:Program} {w:World} {K:PySem.W.Frag} {h:Heap} {mg:Str->Option Value} {f:Addr} (X:K.In h) (G:h.Ns mainGlobals mg) (hfa:mg ("law":Str)=some (.ref f)) (c:He.SaysD fa fn K) (cx:exOk K=true) :
  ∃ fd:FuncData,(∀ (s:Shared) (v:Value),BindsTo s fd ⟨[v],[]⟩ [("_law_script",v)])/\∀ base:Heap,K.In base->base.Ns mainGlobals mg->FnOk P w K mg base CX0 230 f fd ["_law_script"] (spLaw K):=by
 obtain ⟨fd__wall,D__wall⟩:=c.def_ 0 (d:=d__wall) rfl
 have F__wall:Fun K "_wall" "_wall" s__wall _ fd__wall:=He5.fun_of D__wall
 have m__wall:=He.glo_ok X G (c.fact 0 (f:=.glo "_wall") rfl)
 have b__wall:=F__wall.binds (ps:=["k"]) fun _ _ _ _ _ _ us hl=>match us,hl with | [_],_=>rfl
 obtain ⟨fd_is_whole,D_is_whole⟩:=c.def_ 1 (d:=d_is_whole) rfl
 have F_is_whole:Fun K "is_whole" "is_whole" s_is_whole _ fd_is_whole:=He5.fun_of D_is_whole
 have m_is_whole:=He.glo_ok X G (c.fact 1 (f:=.glo "is_whole") rfl)
 have b_is_whole:=F_is_whole.binds (ps:=["thing"]) fun _ _ _ _ _ _ us hl=>match us,hl with | [_],_=>rfl
 obtain ⟨fd_is_many,D_is_many⟩:=c.def_ 2 (d:=d_is_many) rfl
 have F_is_many:Fun K "is_many" "is_many" s_is_many _ fd_is_many:=He5.fun_of D_is_many
 have m_is_many:=He.glo_ok X G (c.fact 2 (f:=.glo "is_many") rfl)
 have b_is_many:=F_is_many.binds (ps:=["thing"]) fun _ _ _ _ _ _ us hl=>match us,hl with | [_],_=>rfl
 obtain ⟨fd_is_name,D_is_name⟩:=c.def_ 3 (d:=d_is_name) rfl
 have F_is_name:Fun K "is_name" "is_name" s_is_name _ fd_is_name:=He5.fun_of D_is_name
 have m_is_name:=He.glo_ok X G (c.fact 3 (f:=.glo "is_name") rfl)
 have b_is_name:=F_is_name.binds (ps:=["thing"]) fun _ _ _ _ _ _ us hl=>match us,hl with | [_],_=>rfl
 obtain ⟨fd_is_rising,D_is_rising⟩:=c.def_ 4 (d:=d_is_rising) rfl
 have F_is_rising:Fun K "is_rising" "is_rising" s_is_rising _ fd_is_rising:=He5.fun_of D_is_rising
 have m_is_rising:=He.glo_ok X G (c.fact 4 (f:=.glo "is_rising") rfl)
 have b_is_rising:=F_is_rising.binds (ps:=["things"]) fun _ _ _ _ _ _ us hl=>match us,hl with | [_],_=>rfl
 obtain ⟨fd_joined,D_joined⟩:=c.def_ 5 (d:=d_joined) rfl
 have F_joined:Fun K "joined" "joined" s_joined _ fd_joined:=He5.fun_of D_joined
 have m_joined:=He.glo_ok X G (c.fact 5 (f:=.glo "joined") rfl)
 have b_joined:=F_joined.binds (ps:=["pairs"]) fun _ _ _ _ _ _ us hl=>match us,hl with | [_],_=>rfl
 obtain ⟨fd_many_at,D_many_at⟩:=c.def_ 6 (d:=d_many_at) rfl
 have F_many_at:Fun K "many_at" "many_at" s_many_at _ fd_many_at:=He5.fun_of D_many_at
 have m_many_at:=He.glo_ok X G (c.fact 6 (f:=.glo "many_at") rfl)
 have b_many_at:=F_many_at.binds (ps:=["pairs","thing"]) fun _ _ _ _ _ _ us hl=>match us,hl with | [_,_],_=>rfl
 obtain ⟨fd_run_of,D_run_of⟩:=c.def_ 7 (d:=d_run_of) rfl
 have F_run_of:Fun K "run_of" "run_of" s_run_of _ fd_run_of:=He5.fun_of D_run_of
 have m_run_of:=He.glo_ok X G (c.fact 7 (f:=.glo "run_of") rfl)
 have b_run_of:=F_run_of.binds (ps:=["text","at","signs"]) fun _ _ _ _ _ _ us hl=>match us,hl with | [_,_,_],_=>rfl
 obtain ⟨fd_is_tree,D_is_tree⟩:=c.def_ 8 (d:=d_is_tree) rfl
 have F_is_tree:Fun K "is_tree" "is_tree" s_is_tree _ fd_is_tree:=He5.fun_of D_is_tree
 have m_is_tree:=He.glo_ok X G (c.fact 8 (f:=.glo "is_tree") rfl)
 have b_is_tree:=F_is_tree.binds (ps:=["thing"]) fun _ _ _ _ _ _ us hl=>match us,hl with | [_],_=>rfl
 obtain ⟨fd_is_grove,D_is_grove⟩:=c.def_ 9 (d:=d_is_grove) rfl
 have F_is_grove:Fun K "is_grove" "is_grove" s_is_grove _ fd_is_grove:=He5.fun_of D_is_grove
 have m_is_grove:=He.glo_ok X G (c.fact 9 (f:=.glo "is_grove") rfl)
 have b_is_grove:=F_is_grove.binds (ps:=["thing"]) fun _ _ _ _ _ _ us hl=>match us,hl with | [_],_=>rfl
 obtain ⟨fd_are_grove_pairs,D_are_grove_pairs⟩:=c.def_ 10 (d:=d_are_grove_pairs) rfl
 have F_are_grove_pairs:Fun K "are_grove_pairs" "are_grove_pairs" s_are_grove_pairs _ fd_are_grove_pairs:=He5.fun_of D_are_grove_pairs
 have m_are_grove_pairs:=He.glo_ok X G (c.fact 10 (f:=.glo "are_grove_pairs") rfl)
 have b_are_grove_pairs:=F_are_grove_pairs.binds (ps:=["things"]) fun _ _ _ _ _ _ us hl=>match us,hl with | [_],_=>rfl
 obtain ⟨fd_pairs_within,D_pairs_within⟩:=c.def_ 11 (d:=d_pairs_within) rfl
 have F_pairs_within:Fun K "pairs_within" "pairs_within" s_pairs_within _ fd_pairs_within:=He5.fun_of D_pairs_within
 have m_pairs_within:=He.glo_ok X G (c.fact 11 (f:=.glo "pairs_within") rfl)
 have b_pairs_within:=F_pairs_within.binds (ps:=["grove"]) fun _ _ _ _ _ _ us hl=>match us,hl with | [_],_=>rfl
 obtain ⟨fd_kinds_within,D_kinds_within⟩:=c.def_ 12 (d:=d_kinds_within) rfl
 have F_kinds_within:Fun K "kinds_within" "kinds_within" s_kinds_within _ fd_kinds_within:=He5.fun_of D_kinds_within
 have m_kinds_within:=He.glo_ok X G (c.fact 12 (f:=.glo "kinds_within") rfl)
 have b_kinds_within:=F_kinds_within.binds (ps:=["grove"]) fun _ _ _ _ _ _ us hl=>match us,hl with | [_],_=>rfl
 obtain ⟨fd_rules_from_nought,D_rules_from_nought⟩:=c.def_ 13 (d:=d_rules_from_nought) rfl
 have F_rules_from_nought:Fun K "rules_from_nought" "rules_from_nought" s_rules_from_nought _ fd_rules_from_nought:=He5.fun_of D_rules_from_nought
 have m_rules_from_nought:=He.glo_ok X G (c.fact 13 (f:=.glo "rules_from_nought") rfl)
 have b_rules_from_nought:=F_rules_from_nought.binds (ps:=["book","name"]) fun _ _ _ _ _ _ us hl=>match us,hl with | [_,_],_=>rfl
 obtain ⟨fd_check_kind,D_check_kind⟩:=c.def_ 14 (d:=d_check_kind) rfl
 have F_check_kind:Fun K "check_kind" "check_kind" s_check_kind _ fd_check_kind:=He5.fun_of D_check_kind
 have m_check_kind:=He.glo_ok X G (c.fact 14 (f:=.glo "check_kind") rfl)
 have b_check_kind:=F_check_kind.binds (ps:=["book","name"]) fun _ _ _ _ _ _ us hl=>match us,hl with | [_,_],_=>rfl
 obtain ⟨fd_check_kinds,D_check_kinds⟩:=c.def_ 15 (d:=d_check_kinds) rfl
 have F_check_kinds:Fun K "check_kinds" "check_kinds" s_check_kinds _ fd_check_kinds:=He5.fun_of D_check_kinds
 have m_check_kinds:=He.glo_ok X G (c.fact 15 (f:=.glo "check_kinds") rfl)
 have b_check_kinds:=F_check_kinds.binds (ps:=["book","grove"]) fun _ _ _ _ _ _ us hl=>match us,hl with | [_,_],_=>rfl
 obtain ⟨fd_are_kinds,D_are_kinds⟩:=c.def_ 16 (d:=d_are_kinds) rfl
 have F_are_kinds:Fun K "are_kinds" "are_kinds" s_are_kinds _ fd_are_kinds:=He5.fun_of D_are_kinds
 have m_are_kinds:=He.glo_ok X G (c.fact 16 (f:=.glo "are_kinds") rfl)
 have b_are_kinds:=F_are_kinds.binds (ps:=["things"]) fun _ _ _ _ _ _ us hl=>match us,hl with | [_],_=>rfl
 obtain ⟨fd_is_kind,D_is_kind⟩:=c.def_ 17 (d:=d_is_kind) rfl
 have F_is_kind:Fun K "is_kind" "is_kind" s_is_kind _ fd_is_kind:=He5.fun_of D_is_kind
 have m_is_kind:=He.glo_ok X G (c.fact 17 (f:=.glo "is_kind") rfl)
 have b_is_kind:=F_is_kind.binds (ps:=["thing"]) fun _ _ _ _ _ _ us hl=>match us,hl with | [_],_=>rfl
 obtain ⟨fd_is_rule,D_is_rule⟩:=c.def_ 18 (d:=d_is_rule) rfl
 have F_is_rule:Fun K "is_rule" "is_rule" s_is_rule _ fd_is_rule:=He5.fun_of D_is_rule
 have m_is_rule:=He.glo_ok X G (c.fact 18 (f:=.glo "is_rule") rfl)
 have b_is_rule:=F_is_rule.binds (ps:=["thing"]) fun _ _ _ _ _ _ us hl=>match us,hl with | [_],_=>rfl
 obtain ⟨fd_is_rule_of,D_is_rule_of⟩:=c.def_ 19 (d:=d_is_rule_of) rfl
 have F_is_rule_of:Fun K "is_rule_of" "is_rule_of" s_is_rule_of _ fd_is_rule_of:=He5.fun_of D_is_rule_of
 have m_is_rule_of:=He.glo_ok X G (c.fact 19 (f:=.glo "is_rule_of") rfl)
 have b_is_rule_of:=F_is_rule_of.binds (ps:=["rule","names"]) fun _ _ _ _ _ _ us hl=>match us,hl with | [_,_],_=>rfl
 obtain ⟨fd_tree_at,D_tree_at⟩:=c.def_ 20 (d:=d_tree_at) rfl
 have F_tree_at:Fun K "tree_at" "tree_at" s_tree_at _ fd_tree_at:=He5.fun_of D_tree_at
 have m_tree_at:=He.glo_ok X G (c.fact 20 (f:=.glo "tree_at") rfl)
 have b_tree_at:=F_tree_at.binds (ps:=["grove","place"]) fun _ _ _ _ _ _ us hl=>match us,hl with | [_,_],_=>rfl
 obtain ⟨fd_all_places,D_all_places⟩:=c.def_ 21 (d:=d_all_places) rfl
 have F_all_places:Fun K "all_places" "all_places" s_all_places _ fd_all_places:=He5.fun_of D_all_places
 have m_all_places:=He.glo_ok X G (c.fact 21 (f:=.glo "all_places") rfl)
 have b_all_places:=F_all_places.binds (ps:=["grove"]) fun _ _ _ _ _ _ us hl=>match us,hl with | [_],_=>rfl
 obtain ⟨fd_steps_of,D_steps_of⟩:=c.def_ 22 (d:=d_steps_of) rfl
 have F_steps_of:Fun K "steps_of" "steps_of" s_steps_of _ fd_steps_of:=He5.fun_of D_steps_of
 have m_steps_of:=He.glo_ok X G (c.fact 22 (f:=.glo "steps_of") rfl)
 have b_steps_of:=F_steps_of.binds (ps:=["book","name"]) fun _ _ _ _ _ _ us hl=>match us,hl with | [_,_],_=>rfl
 obtain ⟨fd_steps_in,D_steps_in⟩:=c.def_ 23 (d:=d_steps_in) rfl
 have F_steps_in:Fun K "steps_in" "steps_in" s_steps_in _ fd_steps_in:=He5.fun_of D_steps_in
 have m_steps_in:=He.glo_ok X G (c.fact 23 (f:=.glo "steps_in") rfl)
 have b_steps_in:=F_steps_in.binds (ps:=["name","rule","word","grove"]) fun _ _ _ _ _ _ us hl=>match us,hl with | [_,_,_,_],_=>rfl
 obtain ⟨fd_leads,D_leads⟩:=c.def_ 24 (d:=d_leads) rfl
 have F_leads:Fun K "leads" "leads" s_leads _ fd_leads:=He5.fun_of D_leads
 have m_leads:=He.glo_ok X G (c.fact 24 (f:=.glo "leads") rfl)
 have b_leads:=F_leads.binds (ps:=["book","name"]) fun _ _ _ _ _ _ us hl=>match us,hl with | [_,_],_=>rfl
 obtain ⟨fd_ending_kinds,D_ending_kinds⟩:=c.def_ 25 (d:=d_ending_kinds) rfl
 have F_ending_kinds:Fun K "ending_kinds" "ending_kinds" s_ending_kinds _ fd_ending_kinds:=He5.fun_of D_ending_kinds
 have m_ending_kinds:=He.glo_ok X G (c.fact 25 (f:=.glo "ending_kinds") rfl)
 have b_ending_kinds:=F_ending_kinds.binds (ps:=["book"]) fun _ _ _ _ _ _ us hl=>match us,hl with | [_],_=>rfl
 obtain ⟨fd_lead_into,D_lead_into⟩:=c.def_ 26 (d:=d_lead_into) rfl
 have F_lead_into:Fun K "lead_into" "lead_into" s_lead_into _ fd_lead_into:=He5.fun_of D_lead_into
 have m_lead_into:=He.glo_ok X G (c.fact 26 (f:=.glo "lead_into") rfl)
 have b_lead_into:=F_lead_into.binds (ps:=["led","ending"]) fun _ _ _ _ _ _ us hl=>match us,hl with | [_,_],_=>rfl
 obtain ⟨fd_endless_kinds,D_endless_kinds⟩:=c.def_ 27 (d:=d_endless_kinds) rfl
 have F_endless_kinds:Fun K "endless_kinds" "endless_kinds" s_endless_kinds _ fd_endless_kinds:=He5.fun_of D_endless_kinds
 have m_endless_kinds:=He.glo_ok X G (c.fact 27 (f:=.glo "endless_kinds") rfl)
 have b_endless_kinds:=F_endless_kinds.binds (ps:=["book"]) fun _ _ _ _ _ _ us hl=>match us,hl with | [_],_=>rfl
 obtain ⟨fd_check_ends,D_check_ends⟩:=c.def_ 28 (d:=d_check_ends) rfl
 have F_check_ends:Fun K "check_ends" "check_ends" s_check_ends _ fd_check_ends:=He5.fun_of D_check_ends
 have m_check_ends:=He.glo_ok X G (c.fact 28 (f:=.glo "check_ends") rfl)
 have b_check_ends:=F_check_ends.binds (ps:=["book","grove"]) fun _ _ _ _ _ _ us hl=>match us,hl with | [_,_],_=>rfl
 obtain ⟨fd_number,D_number⟩:=c.def_ 29 (d:=d_number) rfl
 have F_number:Fun K "number" "number" s_number _ fd_number:=He5.fun_of D_number
 have m_number:=He.glo_ok X G (c.fact 29 (f:=.glo "number") rfl)
 have b_number:=F_number.binds (ps:=["many"]) fun _ _ _ _ _ _ us hl=>match us,hl with | [_],_=>rfl
 obtain ⟨fd_is_less,D_is_less⟩:=c.def_ 30 (d:=d_is_less) rfl
 have F_is_less:Fun K "is_less" "is_less" s_is_less _ fd_is_less:=He5.fun_of D_is_less
 have m_is_less:=He.glo_ok X G (c.fact 30 (f:=.glo "is_less") rfl)
 have b_is_less:=F_is_less.binds (ps:=["one","other"]) fun _ _ _ _ _ _ us hl=>match us,hl with | [_,_],_=>rfl
 obtain ⟨fd_behind,D_behind⟩:=c.def_ 31 (d:=d_behind) rfl
 have F_behind:Fun K "behind" "behind" s_behind _ fd_behind:=He5.fun_of D_behind
 have m_behind:=He.glo_ok X G (c.fact 31 (f:=.glo "behind") rfl)
 have b_behind:=F_behind.binds (ps:=["one","other"]) fun _ _ _ _ _ _ us hl=>match us,hl with | [_,_],_=>rfl
 obtain ⟨fd_both,D_both⟩:=c.def_ 32 (d:=d_both) rfl
 have F_both:Fun K "both" "both" s_both _ fd_both:=He5.fun_of D_both
 have m_both:=He.glo_ok X G (c.fact 32 (f:=.glo "both") rfl)
 have b_both:=F_both.binds (ps:=["one","other"]) fun _ _ _ _ _ _ us hl=>match us,hl with | [_,_],_=>rfl
 obtain ⟨fd_all_together,D_all_together⟩:=c.def_ 33 (d:=d_all_together) rfl
 have F_all_together:Fun K "all_together" "all_together" s_all_together _ fd_all_together:=He5.fun_of D_all_together
 have m_all_together:=He.glo_ok X G (c.fact 33 (f:=.glo "all_together") rfl)
 have b_all_together:=F_all_together.binds (ps:=["some"]) fun _ _ _ _ _ _ us hl=>match us,hl with | [_],_=>rfl
 obtain ⟨fd_many_of,D_many_of⟩:=c.def_ 34 (d:=d_many_of) rfl
 have F_many_of:Fun K "many_of" "many_of" s_many_of _ fd_many_of:=He5.fun_of D_many_of
 have m_many_of:=He.glo_ok X G (c.fact 34 (f:=.glo "many_of") rfl)
 have b_many_of:=F_many_of.binds (ps:=["ladder","many"]) fun _ _ _ _ _ _ us hl=>match us,hl with | [_,_],_=>rfl
 obtain ⟨fd_power,D_power⟩:=c.def_ 35 (d:=d_power) rfl
 have F_power:Fun K "power" "power" s_power _ fd_power:=He5.fun_of D_power
 have m_power:=He.glo_ok X G (c.fact 35 (f:=.glo "power") rfl)
 have b_power:=F_power.binds (ps:=["ladder"]) fun _ _ _ _ _ _ us hl=>match us,hl with | [_],_=>rfl
 obtain ⟨fd_above,D_above⟩:=c.def_ 36 (d:=d_above) rfl
 have F_above:Fun K "above" "above" s_above _ fd_above:=He5.fun_of D_above
 have m_above:=He.glo_ok X G (c.fact 36 (f:=.glo "above") rfl)
 have b_above:=F_above.binds (ps:=["one","other"]) fun _ _ _ _ _ _ us hl=>match us,hl with | [_,_],_=>rfl
 obtain ⟨fd_spread,D_spread⟩:=c.def_ 37 (d:=d_spread) rfl
 have F_spread:Fun K "spread" "spread" s_spread _ fd_spread:=He5.fun_of D_spread
 have m_spread:=He.glo_ok X G (c.fact 37 (f:=.glo "spread") rfl)
 have b_spread:=F_spread.binds (ps:=["one","other"]) fun _ _ _ _ _ _ us hl=>match us,hl with | [_,_],_=>rfl
 obtain ⟨fd_rank,D_rank⟩:=c.def_ 38 (d:=d_rank) rfl
 have F_rank:Fun K "rank" "rank" s_rank _ fd_rank:=He5.fun_of D_rank
 have m_rank:=He.glo_ok X G (c.fact 38 (f:=.glo "rank") rfl)
 have b_rank:=F_rank.binds (ps:=["book","grove"]) fun _ _ _ _ _ _ us hl=>match us,hl with | [_,_],_=>rfl
 obtain ⟨fd_own_ranks,D_own_ranks⟩:=c.def_ 39 (d:=d_own_ranks) rfl
 have F_own_ranks:Fun K "own_ranks" "own_ranks" s_own_ranks _ fd_own_ranks:=He5.fun_of D_own_ranks
 have m_own_ranks:=He.glo_ok X G (c.fact 39 (f:=.glo "own_ranks") rfl)
 have b_own_ranks:=F_own_ranks.binds (ps:=["book"]) fun _ _ _ _ _ _ us hl=>match us,hl with | [_],_=>rfl
 obtain ⟨fd_climb,D_climb⟩:=c.def_ 40 (d:=d_climb) rfl
 have F_climb:Fun K "climb" "climb" s_climb _ fd_climb:=He5.fun_of D_climb
 have m_climb:=He.glo_ok X G (c.fact 40 (f:=.glo "climb") rfl)
 have b_climb:=F_climb.binds (ps:=["book","worths","rule"]) fun _ _ _ _ _ _ us hl=>match us,hl with | [_,_,_],_=>rfl
 obtain ⟨fd_reckoned,D_reckoned⟩:=c.def_ 41 (d:=d_reckoned) rfl
 have F_reckoned:Fun K "reckoned" "reckoned" s_reckoned _ fd_reckoned:=He5.fun_of D_reckoned
 have m_reckoned:=He.glo_ok X G (c.fact 41 (f:=.glo "reckoned") rfl)
 have b_reckoned:=F_reckoned.binds (ps:=["book","worths","grove"]) fun _ _ _ _ _ _ us hl=>match us,hl with | [_,_,_],_=>rfl
 obtain ⟨fd_reckoned_tree,D_reckoned_tree⟩:=c.def_ 42 (d:=d_reckoned_tree) rfl
 have F_reckoned_tree:Fun K "reckoned_tree" "reckoned_tree" s_reckoned_tree _ fd_reckoned_tree:=He5.fun_of D_reckoned_tree
 have m_reckoned_tree:=He.glo_ok X G (c.fact 42 (f:=.glo "reckoned_tree") rfl)
 have b_reckoned_tree:=F_reckoned_tree.binds (ps:=["book","worths","tree"]) fun _ _ _ _ _ _ us hl=>match us,hl with | [_,_,_],_=>rfl
 obtain ⟨fd_laden,D_laden⟩:=c.def_ 43 (d:=d_laden) rfl
 have F_laden:Fun K "laden" "laden" s_laden _ fd_laden:=He5.fun_of D_laden
 have m_laden:=He.glo_ok X G (c.fact 43 (f:=.glo "laden") rfl)
 have b_laden:=F_laden.binds (ps:=["book","kind","own","inner"]) fun _ _ _ _ _ _ us hl=>match us,hl with | [_,_,_,_],_=>rfl
 obtain ⟨fd_outlasts,D_outlasts⟩:=c.def_ 44 (d:=d_outlasts) rfl
 have F_outlasts:Fun K "outlasts" "outlasts" s_outlasts _ fd_outlasts:=He5.fun_of D_outlasts
 have m_outlasts:=He.glo_ok X G (c.fact 44 (f:=.glo "outlasts") rfl)
 have b_outlasts:=F_outlasts.binds (ps:=["book","grove","other_book","other"]) fun _ _ _ _ _ _ us hl=>match us,hl with | [_,_,_,_],_=>rfl
 obtain ⟨fd_check_hands,D_check_hands⟩:=c.def_ 45 (d:=d_check_hands) rfl
 have F_check_hands:Fun K "check_hands" "check_hands" s_check_hands _ fd_check_hands:=He5.fun_of D_check_hands
 have m_check_hands:=He.glo_ok X G (c.fact 45 (f:=.glo "check_hands") rfl)
 have b_check_hands:=F_check_hands.binds (ps:=["book","grove","other_book","other"]) fun _ _ _ _ _ _ us hl=>match us,hl with | [_,_,_,_],_=>rfl
 obtain ⟨fd__law_pot,D__law_pot⟩:=c.def_ 46 (d:=d__law_pot) rfl
 have F__law_pot:Fun K "_law_pot" "_law_pot" s__law_pot _ fd__law_pot:=He5.fun_of D__law_pot
 have m__law_pot:=He.glo_ok X G (c.fact 46 (f:=.glo "_law_pot") rfl)
 have b__law_pot:=F__law_pot.binds (ps:=["_law_script"]) fun _ _ _ _ _ _ us hl=>match us,hl with | [_],_=>rfl
 obtain ⟨fd__law_take,D__law_take⟩:=c.def_ 47 (d:=d__law_take) rfl
 have F__law_take:Fun K "_law_take" "_law_take" s__law_take _ fd__law_take:=He5.fun_of D__law_take
 have m__law_take:=He.glo_ok X G (c.fact 47 (f:=.glo "_law_take") rfl)
 have b__law_take:=F__law_take.binds (ps:=["_law_pot_here","_law_many"]) fun _ _ _ _ _ _ us hl=>match us,hl with | [_,_],_=>rfl
 obtain ⟨fd__law_less,D__law_less⟩:=c.def_ 48 (d:=d__law_less) rfl
 have F__law_less:Fun K "_law_less" "_law_less" s__law_less _ fd__law_less:=He5.fun_of D__law_less
 have m__law_less:=He.glo_ok X G (c.fact 48 (f:=.glo "_law_less") rfl)
 have b__law_less:=F__law_less.binds (ps:=["_law_one","_law_other"]) fun _ _ _ _ _ _ us hl=>match us,hl with | [_,_],_=>rfl
 obtain ⟨fd__law_behind,D__law_behind⟩:=c.def_ 49 (d:=d__law_behind) rfl
 have F__law_behind:Fun K "_law_behind" "_law_behind" s__law_behind _ fd__law_behind:=He5.fun_of D__law_behind
 have m__law_behind:=He.glo_ok X G (c.fact 49 (f:=.glo "_law_behind") rfl)
 have b__law_behind:=F__law_behind.binds (ps:=["_law_one","_law_other"]) fun _ _ _ _ _ _ us hl=>match us,hl with | [_,_],_=>rfl
 obtain ⟨fd__law_both,D__law_both⟩:=c.def_ 50 (d:=d__law_both) rfl
 have F__law_both:Fun K "_law_both" "_law_both" s__law_both _ fd__law_both:=He5.fun_of D__law_both
 have m__law_both:=He.glo_ok X G (c.fact 50 (f:=.glo "_law_both") rfl)
 have b__law_both:=F__law_both.binds (ps:=["_law_one","_law_other"]) fun _ _ _ _ _ _ us hl=>match us,hl with | [_,_],_=>rfl
 obtain ⟨fd__law_above,D__law_above⟩:=c.def_ 51 (d:=d__law_above) rfl
 have F__law_above:Fun K "_law_above" "_law_above" s__law_above _ fd__law_above:=He5.fun_of D__law_above
 have m__law_above:=He.glo_ok X G (c.fact 51 (f:=.glo "_law_above") rfl)
 have b__law_above:=F__law_above.binds (ps:=["_law_one","_law_other"]) fun _ _ _ _ _ _ us hl=>match us,hl with | [_,_],_=>rfl
 obtain ⟨fd__law_own,D__law_own⟩:=c.def_ 52 (d:=d__law_own) rfl
 have F__law_own:Fun K "_law_own" "_law_own" s__law_own _ fd__law_own:=He5.fun_of D__law_own
 have m__law_own:=He.glo_ok X G (c.fact 52 (f:=.glo "_law_own") rfl)
 have b__law_own:=F__law_own.binds (ps:=["_law_book","_law_known","_law_name"]) fun _ _ _ _ _ _ us hl=>match us,hl with | [_,_,_],_=>rfl
 obtain ⟨fd__law_rank,D__law_rank⟩:=c.def_ 53 (d:=d__law_rank) rfl
 have F__law_rank:Fun K "_law_rank" "_law_rank" s__law_rank _ fd__law_rank:=He5.fun_of D__law_rank
 have m__law_rank:=He.glo_ok X G (c.fact 53 (f:=.glo "_law_rank") rfl)
 have b__law_rank:=F__law_rank.binds (ps:=["_law_book","_law_known","_law_grove"]) fun _ _ _ _ _ _ us hl=>match us,hl with | [_,_,_],_=>rfl
 obtain ⟨fd__law_grove_of,D__law_grove_of⟩:=c.def_ 54 (d:=d__law_grove_of) rfl
 have F__law_grove_of:Fun K "_law_grove_of" "_law_grove_of" s__law_grove_of _ fd__law_grove_of:=He5.fun_of D__law_grove_of
 have m__law_grove_of:=He.glo_ok X G (c.fact 54 (f:=.glo "_law_grove_of") rfl)
 have b__law_grove_of:=F__law_grove_of.binds (ps:=["_law_pairs"]) fun _ _ _ _ _ _ us hl=>match us,hl with | [_],_=>rfl
 obtain ⟨fd__law_names,D__law_names⟩:=c.def_ 55 (d:=d__law_names) rfl
 have F__law_names:Fun K "_law_names" "_law_names" s__law_names _ fd__law_names:=He5.fun_of D__law_names
 have m__law_names:=He.glo_ok X G (c.fact 55 (f:=.glo "_law_names") rfl)
 have b__law_names:=F__law_names.binds (ps:=["_law_pot_here","_law_many"]) fun _ _ _ _ _ _ us hl=>match us,hl with | [_,_],_=>rfl
 obtain ⟨fd__law_drawn_grove,D__law_drawn_grove⟩:=c.def_ 56 (d:=d__law_drawn_grove) rfl
 have F__law_drawn_grove:Fun K "_law_drawn_grove" "_law_drawn_grove" s__law_drawn_grove _ fd__law_drawn_grove:=He5.fun_of D__law_drawn_grove
 have m__law_drawn_grove:=He.glo_ok X G (c.fact 56 (f:=.glo "_law_drawn_grove") rfl)
 have b__law_drawn_grove:=F__law_drawn_grove.binds (ps:=["_law_pot_here","_law_names_here","_law_parts","_law_great"]) fun _ _ _ _ _ _ us hl=>match us,hl with | [_,_,_,_],_=>rfl
 obtain ⟨fd__law_drawn_book,D__law_drawn_book⟩:=c.def_ 57 (d:=d__law_drawn_book) rfl
 have F__law_drawn_book:Fun K "_law_drawn_book" "_law_drawn_book" s__law_drawn_book _ fd__law_drawn_book:=He5.fun_of D__law_drawn_book
 have m__law_drawn_book:=He.glo_ok X G (c.fact 57 (f:=.glo "_law_drawn_book") rfl)
 have b__law_drawn_book:=F__law_drawn_book.binds (ps:=["_law_pot_here","_law_most","_law_told"]) fun _ _ _ _ _ _ us hl=>match us,hl with | [_,_,_],_=>rfl
 obtain ⟨fd__law_kinds,D__law_kinds⟩:=c.def_ 58 (d:=d__law_kinds) rfl
 have F__law_kinds:Fun K "_law_kinds" "_law_kinds" s__law_kinds _ fd__law_kinds:=He5.fun_of D__law_kinds
 have m__law_kinds:=He.glo_ok X G (c.fact 58 (f:=.glo "_law_kinds") rfl)
 have b__law_kinds:=F__law_kinds.binds (ps:=["_law_book","_law_turned"]) fun _ _ _ _ _ _ us hl=>match us,hl with | [_,_],_=>rfl
 obtain ⟨fd__law_two,D__law_two⟩:=c.def_ 59 (d:=d__law_two) rfl
 have F__law_two:Fun K "_law_two" "_law_two" s__law_two _ fd__law_two:=He5.fun_of D__law_two
 have m__law_two:=He.glo_ok X G (c.fact 59 (f:=.glo "_law_two") rfl)
 have b__law_two:=F__law_two.binds (ps:=["_law_pot_here"]) fun _ _ _ _ _ _ us hl=>match us,hl with | [_],_=>rfl
 obtain ⟨fd__law_refusal,D__law_refusal⟩:=c.def_ 60 (d:=d__law_refusal) rfl
 have F__law_refusal:Fun K "_law_refusal" "_law_refusal" s__law_refusal _ fd__law_refusal:=He5.fun_of D__law_refusal
 have m__law_refusal:=He.glo_ok X G (c.fact 60 (f:=.glo "_law_refusal") rfl)
 have b__law_refusal:=F__law_refusal.binds (ps:=["_law_way","_law_made","_law_grove","_law_other","_law_far"]) fun _ _ _ _ _ _ us hl=>match us,hl with | [_,_,_,_,_],_=>rfl
 obtain ⟨fd__law_refused,D__law_refused⟩:=c.def_ 61 (d:=d__law_refused) rfl
 have F__law_refused:Fun K "_law_refused" "_law_refused" s__law_refused _ fd__law_refused:=He5.fun_of D__law_refused
 have m__law_refused:=He.glo_ok X G (c.fact 61 (f:=.glo "_law_refused") rfl)
 have b__law_refused:=F__law_refused.binds (ps:=["_law_way","_law_made","_law_grove"]) fun _ _ _ _ _ _ us hl=>match us,hl with | [_,_,_],_=>rfl
 obtain ⟨fd_law,D_law⟩:=c.def_ 62 (d:=d_law) rfl
 have F_law:Fun K "law" "law" s_law _ fd_law:=He5.fun_of D_law
 have m_law:=He.glo_ok X G (c.fact 62 (f:=.glo "law") rfl)
 obtain ⟨fd_NoKind___init__,D_NoKind___init__⟩:=c.def_ 63 (d:=d_NoKind___init__) rfl
 have F_NoKind___init__:Fun K "__init__" "NoKind.__init__" s_NoKind___init__ _ fd_NoKind___init__:=He5.fun_of D_NoKind___init__
 have b_NoKind___init__:=F_NoKind___init__.binds (ps:=["self","kind"]) fun _ _ _ _ _ _ us hl=>match us,hl with | [_,_],_=>rfl
 obtain ⟨fd_Endless___init__,D_Endless___init__⟩:=c.def_ 64 (d:=d_Endless___init__) rfl
 have F_Endless___init__:Fun K "__init__" "Endless.__init__" s_Endless___init__ _ fd_Endless___init__:=He5.fun_of D_Endless___init__
 have b_Endless___init__:=F_Endless___init__.binds (ps:=["self","kind"]) fun _ _ _ _ _ _ us hl=>match us,hl with | [_,_],_=>rfl
 obtain ⟨fd_Book___init__,D_Book___init__⟩:=c.def_ 65 (d:=d_Book___init__) rfl
 have F_Book___init__:Fun K "__init__" "Book.__init__" s_Book___init__ _ fd_Book___init__:=He5.fun_of D_Book___init__
 have b_Book___init__:=F_Book___init__.binds (ps:=["self","kinds"]) fun _ _ _ _ _ _ us hl=>match us,hl with | [_,_],_=>rfl
 obtain ⟨fd_Book_names,D_Book_names⟩:=c.def_ 66 (d:=d_Book_names) rfl
 have F_Book_names:Fun K "names" "Book.names" s_Book_names _ fd_Book_names:=He5.fun_of D_Book_names
 have b_Book_names:=F_Book_names.binds (ps:=["self"]) fun _ _ _ _ _ _ us hl=>match us,hl with | [_],_=>rfl
 obtain ⟨fd_Book_spreads,D_Book_spreads⟩:=c.def_ 67 (d:=d_Book_spreads) rfl
 have F_Book_spreads:Fun K "spreads" "Book.spreads" s_Book_spreads _ fd_Book_spreads:=He5.fun_of D_Book_spreads
 have b_Book_spreads:=F_Book_spreads.binds (ps:=["self","name"]) fun _ _ _ _ _ _ us hl=>match us,hl with | [_,_],_=>rfl
 obtain ⟨fd_Book_rules,D_Book_rules⟩:=c.def_ 68 (d:=d_Book_rules) rfl
 have F_Book_rules:Fun K "rules" "Book.rules" s_Book_rules _ fd_Book_rules:=He5.fun_of D_Book_rules
 have b_Book_rules:=F_Book_rules.binds (ps:=["self","name"]) fun _ _ _ _ _ _ us hl=>match us,hl with | [_,_],_=>rfl
 obtain ⟨fd_Duel___init__,D_Duel___init__⟩:=c.def_ 69 (d:=d_Duel___init__) rfl
 have F_Duel___init__:Fun K "__init__" "Duel.__init__" s_Duel___init__ _ fd_Duel___init__:=He5.fun_of D_Duel___init__
 have b_Duel___init__:=F_Duel___init__.binds (ps:=["self","book","grove","other_book","other"]) fun _ _ _ _ _ _ us hl=>match us,hl with | [_,_,_,_,_],_=>rfl
 obtain ⟨fd_Duel_turn,D_Duel_turn⟩:=c.def_ 70 (d:=d_Duel_turn) rfl
 have F_Duel_turn:Fun K "turn" "Duel.turn" s_Duel_turn _ fd_Duel_turn:=He5.fun_of D_Duel_turn
 have b_Duel_turn:=F_Duel_turn.binds (ps:=["self"]) fun _ _ _ _ _ _ us hl=>match us,hl with | [_],_=>rfl
 obtain ⟨fd_Duel_groves,D_Duel_groves⟩:=c.def_ 71 (d:=d_Duel_groves) rfl
 have F_Duel_groves:Fun K "groves" "Duel.groves" s_Duel_groves _ fd_Duel_groves:=He5.fun_of D_Duel_groves
 have b_Duel_groves:=F_Duel_groves.binds (ps:=["self"]) fun _ _ _ _ _ _ us hl=>match us,hl with | [_],_=>rfl
 obtain ⟨fd_Duel_fall,D_Duel_fall⟩:=c.def_ 72 (d:=d_Duel_fall) rfl
 have F_Duel_fall:Fun K "fall" "Duel.fall" s_Duel_fall _ fd_Duel_fall:=He5.fun_of D_Duel_fall
 have b_Duel_fall:=F_Duel_fall.binds (ps:=["self","place","rule","number"]) fun _ _ _ _ _ _ us hl=>match us,hl with | [_,_,_,_],_=>rfl
 obtain ⟨fd_Duel_answer,D_Duel_answer⟩:=c.def_ 73 (d:=d_Duel_answer) rfl
 have F_Duel_answer:Fun K "answer" "Duel.answer" s_Duel_answer _ fd_Duel_answer:=He5.fun_of D_Duel_answer
 have b_Duel_answer:=F_Duel_answer.binds (ps:=["self"]) fun _ _ _ _ _ _ us hl=>match us,hl with | [_],_=>rfl
 obtain ⟨fd_Duel_outlasted,D_Duel_outlasted⟩:=c.def_ 74 (d:=d_Duel_outlasted) rfl
 have F_Duel_outlasted:Fun K "outlasted" "Duel.outlasted" s_Duel_outlasted _ fd_Duel_outlasted:=He5.fun_of D_Duel_outlasted
 have b_Duel_outlasted:=F_Duel_outlasted.binds (ps:=["self"]) fun _ _ _ _ _ _ us hl=>match us,hl with | [_],_=>rfl
 have B:BI mg:=⟨He.free_ok X G (c.fact 63 (f:=.free "len") rfl),He.free_ok X G (c.fact 64 (f:=.free "isinstance") rfl),He.free_ok X G (c.fact 65 (f:=.free "int") rfl),He.free_ok X G (c.fact 66 (f:=.free "bool") rfl),He.free_ok X G (c.fact 67 (f:=.free "str") rfl),He.free_ok X G (c.fact 68 (f:=.free "tuple") rfl),He.free_ok X G (c.fact 69 (f:=.free "list") rfl),He.free_ok X G (c.fact 70 (f:=.free "all") rfl),He.free_ok X G (c.fact 71 (f:=.free "zip") rfl),He.free_ok X G (c.fact 72 (f:=.free "sum") rfl),He.free_ok X G (c.fact 73 (f:=.free "max") rfl),He.free_ok X G (c.fact 74 (f:=.free "range") rfl),He.free_ok X G (c.fact 75 (f:=.free "enumerate") rfl),He.free_ok X G (c.fact 76 (f:=.free "abs") rfl),He.free_ok X G (c.fact 77 (f:=.free "sorted") rfl),He.free_ok X G (c.fact 78 (f:=.free "min") rfl),He.free_ok X G (c.fact 79 (f:=.free "reversed") rfl),He.free_ok X G (c.fact 80 (f:=.free "any") rfl),He.free_ok X G (c.fact 81 (f:=.free "set") rfl),He.free_ok X G (c.fact 82 (f:=.free "dict") rfl),He.free_ok X G (c.fact 83 (f:=.free "repr") rfl)⟩
 obtain ⟨xk_NoKind,cx⟩:=He.ba cx
 obtain ⟨xk_Endless,cx⟩:=He.ba cx
 obtain ⟨xt_NO_GROVES,cx⟩:=He.ba cx
 have W_NO_GROVES:=no2B_ok xt_NO_GROVES
 have T:ErrsM K mg (He.ga K) eC eN eK:=ermB_ok cx (fun n hn=>by
   rcases List.mem_cons.mp hn with e | hn
   ·rw [e]; exact He.glo_ok X G (c.fact 86 (f:=.glo "NoPlace") rfl)
   rcases List.mem_cons.mp hn with e | hn
   ·rw [e]; exact He.glo_ok X G (c.fact 87 (f:=.glo "NoBook") rfl)
   rcases List.mem_cons.mp hn with e | hn
   ·rw [e]; exact He.glo_ok X G (c.fact 88 (f:=.glo "NoKind") rfl)
   rcases List.mem_cons.mp hn with e | hn
   ·rw [e]; exact He.glo_ok X G (c.fact 89 (f:=.glo "Endless") rfl)
   exact nomatch hn) (He.glo_ok X G (c.fact 84 (f:=.glo "FellError") rfl)) (He.free_ok X G (c.fact 85 (f:=.free "ValueError") rfl)) (fun n hn=>by
   rcases List.mem_cons.mp hn with e | hn
   ·rw [e]; exact He.noat_ok (c.fact 90 (f:=.noat "NoKind" "kind") rfl)
   rcases List.mem_cons.mp hn with e | hn
   ·rw [e]; exact He.noat_ok (c.fact 91 (f:=.noat "Endless" "kind") rfl)
   exact nomatch hn)
 have L_LETTERS:=He.str_ok X G (c.fact 92 (f:=.str "LETTERS" "abcdefghijklmnopqrstuvwxyz") rfl)
 have L_LONGEST_NAME:=He.int_ok X G (c.fact 93 (f:=.int "LONGEST_NAME" (8)) rfl)
 have L_MOST_KINDS:=He.int_ok X G (c.fact 94 (f:=.int "MOST_KINDS" (8)) rfl)
 have L_MOST_RULES:=He.int_ok X G (c.fact 95 (f:=.int "MOST_RULES" (4)) rfl)
 have L_MOST_RULE_PARTS:=He.int_ok X G (c.fact 96 (f:=.int "MOST_RULE_PARTS" (4)) rfl)
 have L_MOST_MANY:=He.int_ok X G (c.fact 97 (f:=.int "MOST_MANY" (1000000000)) rfl)
 have V_NO_GROVES:=He.glo_ok X G (c.fact 98 (f:=.glo "NO_GROVES") rfl)
 have O_NoBook:Own K mg "NoBook" (He.ga K "NoBook"):=by
  obtain ⟨y1,y2,y3,y4⟩:=He.exc_ok (c.fact 99 (f:=.exc "NoBook") rfl)
  exact ⟨He.glo_ok X G (c.fact 87 (f:=.glo "NoBook") rfl),y1,y2,y3,y4⟩
 have O_NoPlace:Own K mg "NoPlace" (He.ga K "NoPlace"):=by
  obtain ⟨y1,y2,y3,y4⟩:=He.exc_ok (c.fact 100 (f:=.exc "NoPlace") rfl)
  exact ⟨He.glo_ok X G (c.fact 86 (f:=.glo "NoPlace") rfl),y1,y2,y3,y4⟩
 have m_NoKind:=He.glo_ok X G (c.fact 88 (f:=.glo "NoKind") rfl)
 have h_NoKind:=He.meth_ok (c.fact 101 (f:=.meth "NoKind" "__init__") rfl)
 have n_NoKind:=He.noat_ok (c.fact 90 (f:=.noat "NoKind" "kind") rfl)
 have m_Endless:=He.glo_ok X G (c.fact 89 (f:=.glo "Endless") rfl)
 have h_Endless:=He.meth_ok (c.fact 102 (f:=.meth "Endless" "__init__") rfl)
 have n_Endless:=He.noat_ok (c.fact 91 (f:=.noat "Endless" "kind") rfl)
 have m_Book:=He.glo_ok X G (c.fact 103 (f:=.glo "Book") rfl)
 have c_Book:=He.cls_ok (c.fact 104 (f:=.cls "Book") rfl)
 have T_Book:ClsF K (He.ga K "Book") ["spread_by_name","rows_by_name"]:=⟨c_Book,fun f hf=>by
   rcases List.mem_cons.mp hf with e | hf
   ·rw [e]; exact He.noat_ok (c.fact 105 (f:=.noat "Book" "spread_by_name") rfl)
   rcases List.mem_cons.mp hf with e | hf
   ·rw [e]; exact He.noat_ok (c.fact 106 (f:=.noat "Book" "rows_by_name") rfl)
   exact nomatch hf⟩
 have h_Book___init__:=He.mkr_ok (c.fact 107 (f:=.mkr "Book") rfl)
 have h_Book_names:=He.meth_ok (c.fact 108 (f:=.meth "Book" "names") rfl)
 have h_Book_spreads:=He.meth_ok (c.fact 109 (f:=.meth "Book" "spreads") rfl)
 have h_Book_rules:=He.meth_ok (c.fact 110 (f:=.meth "Book" "rules") rfl)
 have m_Duel:=He.glo_ok X G (c.fact 111 (f:=.glo "Duel") rfl)
 have c_Duel:=He.cls_ok (c.fact 112 (f:=.cls "Duel") rfl)
 have T_Duel:ClsF K (He.ga K "Duel") ["books","standing","hand"]:=⟨c_Duel,fun f hf=>by
   rcases List.mem_cons.mp hf with e | hf
   ·rw [e]; exact He.noat_ok (c.fact 113 (f:=.noat "Duel" "books") rfl)
   rcases List.mem_cons.mp hf with e | hf
   ·rw [e]; exact He.noat_ok (c.fact 114 (f:=.noat "Duel" "standing") rfl)
   rcases List.mem_cons.mp hf with e | hf
   ·rw [e]; exact He.noat_ok (c.fact 115 (f:=.noat "Duel" "hand") rfl)
   exact nomatch hf⟩
 have h_Duel___init__:=He.mkr_ok (c.fact 116 (f:=.mkr "Duel") rfl)
 have h_Duel_turn:=He.meth_ok (c.fact 117 (f:=.meth "Duel" "turn") rfl)
 have h_Duel_groves:=He.meth_ok (c.fact 118 (f:=.meth "Duel" "groves") rfl)
 have h_Duel_fall:=He.meth_ok (c.fact 119 (f:=.meth "Duel" "fall") rfl)
 have h_Duel_answer:=He.meth_ok (c.fact 120 (f:=.meth "Duel" "answer") rfl)
 have h_Duel_outlasted:=He.meth_ok (c.fact 121 (f:=.meth "Duel" "outlasted") rfl)
 have e:=hfa.symm.trans m_law
 cases e
 have b:=FunD.bindsA (ps:=["_law_script"]) D_law fun _ _ _ _ _ _ us hl=>match us,hl with | [_],_=>rfl
 refine ⟨fd_law,fun s v=>b s [v] rfl,fun base _ _=>?_⟩
 have g_is_whole:Got P w K mg base "is_whole" ["thing"] 1 (spWhole K):=⟨_,_,ok_is_whole B F_is_whole,F_is_whole.kp,b_is_whole,m_is_whole⟩
 have g_is_many:Got P w K mg base "is_many" ["thing"] 2 (spMany K []):=⟨_,_,ok_is_many B g_is_whole F_is_many,F_is_many.kp,b_is_many,m_is_many⟩
 have g_is_rising:Got P w K mg base "is_rising" ["things"] 1 (spRising K):=⟨_,_,ok_is_rising B F_is_rising,F_is_rising.kp,b_is_rising,m_is_rising⟩
 have g_run_of:Got P w K mg base "run_of" ["text","at","signs"] 1 (spRunOf K):=⟨_,_,ok_run_of B F_run_of,F_run_of.kp,b_run_of,m_run_of⟩
 have g_is_name:Got P w K mg base "is_name" ["thing"] 2 (spName K):=⟨_,_,ok_is_name B L_LETTERS L_LONGEST_NAME g_run_of F_is_name,F_is_name.kp,b_is_name,m_is_name⟩
 have r_grove:∀ n,Got P w K mg base "is_tree" ["thing"] (n+3) (spIsTree K n)/\Got P w K mg base "is_grove" ["thing"] (n+3) (spIsGrove K n)/\Got P w K mg base "are_grove_pairs" ["things"] (n+3) (spPairsQ K true n):=by
  intro n
  induction n with
  | zero=>exact ⟨⟨_,_,none_is_tree,F_is_tree.kp,b_is_tree,m_is_tree⟩,⟨_,_,none_is_grove,F_is_grove.kp,b_is_grove,m_is_grove⟩,⟨_,_,none_are_grove_pairs,F_are_grove_pairs.kp,b_are_grove_pairs,m_are_grove_pairs⟩⟩
  | succ n ih=>exact ⟨⟨_,_,ok_is_tree B g_is_name ih.2.1 F_is_tree,F_is_tree.kp,b_is_tree,m_is_tree⟩,⟨_,_,ok_is_grove B g_is_rising ih.2.2 F_is_grove,F_is_grove.kp,b_is_grove,m_is_grove⟩,⟨_,_,ok_are_grove_pairs B g_is_many ih.1 F_are_grove_pairs,F_are_grove_pairs.kp,b_are_grove_pairs,m_are_grove_pairs⟩⟩
 have g_is_tree:Got P w K mg base "is_tree" ["thing"] 84 (spIsTree K 81):=(r_grove 81).1
 have g_is_grove:Got P w K mg base "is_grove" ["thing"] 84 (spIsGrove K 81):=(r_grove 81).2.1
 have gL_are_grove_pairs:Got P w K mg base "are_grove_pairs" ["things"] 63 (spPairsQ K false 60):=⟨_,_,ok_are_grove_pairsL B g_is_many (r_grove 59).1 F_are_grove_pairs,F_are_grove_pairs.kp,b_are_grove_pairs,m_are_grove_pairs⟩
 have g_number:Got P w K mg base "number" ["many"] 1 (spNumber K):=⟨_,_,ok_number F_number,F_number.kp,b_number,m_number⟩
 have g_is_less:Got P w K mg base "is_less" ["one","other"] 1 (spLess K):=⟨_,_,ok_is_less F_is_less,F_is_less.kp,b_is_less,m_is_less⟩
 have g_power:Got P w K mg base "power" ["ladder"] 1 (spPower K):=⟨_,_,ok_power F_power,F_power.kp,b_power,m_power⟩
 have r_pairs_within:∀ n,Got P w K mg base "pairs_within" ["grove"] (n) (spPairsW K n):=by
  intro n
  induction n with
  | zero=>exact ⟨_,_,none_pairs_within,F_pairs_within.kp,b_pairs_within,m_pairs_within⟩
  | succ n ih=>exact ⟨_,_,ok_pairs_within ih F_pairs_within,F_pairs_within.kp,b_pairs_within,m_pairs_within⟩
 have g_pairs_within:=r_pairs_within 70
 have g_tree_at:GotX P w K mg base "tree_at" ["grove","place"] 2 (spTreeAt K (He.ga K "NoPlace")):=⟨_,_,ok_tree_at B O_NoPlace g_is_whole F_tree_at,F_tree_at.kp,b_tree_at,m_tree_at⟩
 have g__law_grove_of:Got P w K mg base "_law_grove_of" ["_law_pairs"] 1 (spTidyG K):=⟨_,_,ok_law_grove_of B F__law_grove_of,F__law_grove_of.kp,b__law_grove_of,m__law_grove_of⟩
 have g_many_at:Got P w K mg base "many_at" ["pairs","thing"] 1 (spManyAt K):=⟨_,_,ok_many_at B F_many_at,F_many_at.kp,b_many_at,m_many_at⟩
 have g_behind:Got P w K mg base "behind" ["one","other"] 2 (spBehind K):=⟨_,_,ok_behind B g_is_less g_many_at F_behind,F_behind.kp,b_behind,m_behind⟩
 have g_joined:Got P w K mg base "joined" ["pairs"] 1 (spJoined K Lad.enc):=⟨_,_,ok_joined Lad.noList_enc Lad.eqv_enc B F_joined,F_joined.kp,b_joined,m_joined⟩
 have gG_joined:Got P w K mg base "joined" ["pairs"] 1 (spJoined K Gr.tEnc):=⟨_,_,ok_joined Gr.noList_tEnc (Orderly.eq (enc:=Gr.tEnc)) B F_joined,F_joined.kp,b_joined,m_joined⟩
 have g_all_together:Got P w K mg base "all_together" ["some"] 2 (spAllT K):=⟨_,_,ok_all_together B g_joined F_all_together,F_all_together.kp,b_all_together,m_all_together⟩
 have g_both:Got P w K mg base "both" ["one","other"] 3 (spBoth K):=⟨_,_,ok_both g_all_together F_both,F_both.kp,b_both,m_both⟩
 have g_above:Got P w K mg base "above" ["one","other"] 4 (spAbove K):=⟨_,_,ok_above B g_is_less g_number g_power g_behind g_both F_above,F_above.kp,b_above,m_above⟩
 have g_spread:Got P w K mg base "spread" ["one","other"] 3 (spSpread K):=⟨_,_,ok_spread g_power g_behind F_spread,F_spread.kp,b_spread,m_spread⟩
 have g_many_of:Got P w K mg base "many_of" ["ladder","many"] 1 (spManyOf K):=⟨_,_,ok_many_of B F_many_of,F_many_of.kp,b_many_of,m_many_of⟩
 have g_kinds_within:Got P w K mg base "kinds_within" ["grove"] (71) (spKindsF K):=⟨_,_,ok_kinds_within B g_pairs_within F_kinds_within,F_kinds_within.kp,b_kinds_within,m_kinds_within⟩
 have O_NoKind:OwnI P w K mg base "NoKind" (He.ga K "NoKind") 1:=⟨m_NoKind,oexCB_ok xk_NoKind,n_NoKind,⟨_,_,h_NoKind.at_,beq_iff_eq.mp h_NoKind.fn,ok_NoKind___init__ F_NoKind___init__,b_NoKind___init__⟩⟩
 have g_Book_names:GotM P w K mg base (He.ga K "Book") "names" ["self"] (1) (spBNames K (He.ga K "Book")):=⟨_,_,ok_Book_names B T_Book F_Book_names,h_Book_names,b_Book_names,c_Book⟩
 have g_check_kind:GotX P w K mg base "check_kind" ["book","name"] (3) (spCheckK K (He.ga K "Book") (He.ga K "NoKind")):=⟨_,_,ok_check_kind B O_NoKind g_Book_names F_check_kind,F_check_kind.kp,b_check_kind,m_check_kind⟩
 have g_Book_rules:GotMX P w K mg base (He.ga K "Book") "rules" ["self","name"] (4) (spBRules K (He.ga K "Book") (He.ga K "NoKind")):=⟨_,_,ok_Book_rules B T_Book g_check_kind F_Book_rules,h_Book_rules,b_Book_rules,c_Book⟩
 have g_rules_from_nought:GotX P w K mg base "rules_from_nought" ["book","name"] (5) (spRulesN K (He.ga K "Book") (He.ga K "NoKind")):=⟨_,_,ok_rules_from_nought B V_NO_GROVES W_NO_GROVES g_Book_rules F_rules_from_nought,F_rules_from_nought.kp,b_rules_from_nought,m_rules_from_nought⟩
 have g_check_kinds:GotX P w K mg base "check_kinds" ["book","grove"] (72) (spCheckKX K (He.ga K "Book") (He.ga K "NoKind")):=⟨_,_,ok_check_kinds B g_kinds_within g_check_kind F_check_kinds,F_check_kinds.kp,b_check_kinds,m_check_kinds⟩
 have g_is_rule:Got P w K mg base "is_rule" ["thing"] (85) (spIsRule K):=⟨_,_,ok_is_rule B L_MOST_RULE_PARTS L_MOST_MANY g_is_grove g_pairs_within F_is_rule,F_is_rule.kp,b_is_rule,m_is_rule⟩
 have g_is_kind:Got P w K mg base "is_kind" ["thing"] (86) (spIsKind K):=⟨_,_,ok_is_kind B L_MOST_RULES g_is_name g_is_rule F_is_kind,F_is_kind.kp,b_is_kind,m_is_kind⟩
 have g_is_rule_of:Got P w K mg base "is_rule_of" ["rule","names"] (71) (spIsRuleOf K):=⟨_,_,ok_is_rule_of B g_pairs_within F_is_rule_of,F_is_rule_of.kp,b_is_rule_of,m_is_rule_of⟩
 have g_are_kinds:Got P w K mg base "are_kinds" ["things"] (87) (spAreKinds K):=⟨_,_,ok_are_kinds B L_MOST_KINDS g_is_kind g_is_rule_of F_are_kinds,F_are_kinds.kp,b_are_kinds,m_are_kinds⟩
 have r_all_places:∀ n,Got P w K mg base "all_places" ["grove"] (n) (spAllP K n):=by
  intro n
  induction n with
  | zero=>exact ⟨_,_,none_all_places,F_all_places.kp,b_all_places,m_all_places⟩
  | succ n ih=>exact ⟨_,_,ok_all_places B ih F_all_places,F_all_places.kp,b_all_places,m_all_places⟩
 have g_all_places:Got P w K mg base "all_places" ["grove"] (20) (spAllP K 20):=r_all_places 20
 have g_steps_in:Got P w K mg base "steps_in" ["name","rule","word","grove"] (21) (spStepsIn K):=⟨_,_,ok_steps_in B g_all_places g_tree_at F_steps_in,F_steps_in.kp,b_steps_in,m_steps_in⟩
 have g_steps_of:GotX P w K mg base "steps_of" ["book","name"] (22) (spStepsOf K (He.ga K "Book") (He.ga K "NoKind")):=⟨_,_,ok_steps_of B g_Book_rules g_steps_in F_steps_of,F_steps_of.kp,b_steps_of,m_steps_of⟩
 have g_leads:GotX P w K mg base "leads" ["book","name"] (23) (spLeads K (He.ga K "Book") (He.ga K "NoKind")):=⟨_,_,ok_leads B g_steps_of F_leads,F_leads.kp,b_leads,m_leads⟩
 have g_lead_into:Got P w K mg base "lead_into" ["led","ending"] (1) (spLeadInto K):=⟨_,_,ok_lead_into B F_lead_into,F_lead_into.kp,b_lead_into,m_lead_into⟩
 have g_ending_kinds:Got P w K mg base "ending_kinds" ["book"] (24) (spEndingO K (He.ga K "Book") (He.ga K "NoKind")):=⟨_,_,ok_ending_kinds B g_Book_names g_leads g_lead_into F_ending_kinds,F_ending_kinds.kp,b_ending_kinds,m_ending_kinds⟩
 have g_endless_kinds:Got P w K mg base "endless_kinds" ["book"] (25) (spEndless K (He.ga K "Book") (He.ga K "NoKind")):=⟨_,_,ok_endless_kinds B g_ending_kinds g_Book_names F_endless_kinds,F_endless_kinds.kp,b_endless_kinds,m_endless_kinds⟩
 have O_Endless:OwnI P w K mg base "Endless" (He.ga K "Endless") 1:=⟨m_Endless,oexCB_ok xk_Endless,n_Endless,⟨_,_,h_Endless.at_,beq_iff_eq.mp h_Endless.fn,ok_Endless___init__ F_Endless___init__,b_Endless___init__⟩⟩
 have g_check_ends:GotX P w K mg base "check_ends" ["book","grove"] (72) (spChkEX K (He.ga K "Book") (He.ga K "NoKind") (He.ga K "Endless")):=⟨_,_,ok_check_ends B O_Endless g_endless_kinds g_kinds_within F_check_ends,F_check_ends.kp,b_check_ends,m_check_ends⟩
 have g_Book_spreads:GotMX P w K mg base (He.ga K "Book") "spreads" ["self","name"] (4) (spBSpreads K (He.ga K "Book") (He.ga K "NoKind")):=⟨_,_,ok_Book_spreads B T_Book g_check_kind F_Book_spreads,h_Book_spreads,b_Book_spreads,c_Book⟩
 have g_laden:Got P w K mg base "laden" ["book","kind","own","inner"] (5) (spLadenW K (He.ga K "Book")):=⟨_,_,ok_laden B g_Book_spreads g_spread g_behind F_laden,F_laden.kp,b_laden,m_laden⟩
 have r_reck:∀ n,Got P w K mg base "reckoned" ["book","worths","grove"] (2*n+5) (spReckW K (He.ga K "Book") n):=by
  intro n
  induction n with
  | zero=>exact ⟨_,_,none_reckW,F_reckoned.kp,b_reckoned,m_reckoned⟩
  | succ n ih =>
   have h1:Got P w K mg base "reckoned_tree" ["book","worths","tree"] (2*n+6) (spReckTW K (He.ga K "Book") n):=⟨_,_,ok_reckoned_tree B g_laden ih F_reckoned_tree,F_reckoned_tree.kp,b_reckoned_tree,m_reckoned_tree⟩
   exact ⟨_,_,ok_reckoned B g_all_together g_many_of h1 F_reckoned,F_reckoned.kp,b_reckoned,m_reckoned⟩
 have g_reckoned:Got P w K mg base "reckoned" ["book","worths","grove"] 45 (spReckW K (He.ga K "Book") 20):=r_reck 20
 have g_reckoned_tree:Got P w K mg base "reckoned_tree" ["book","worths","tree"] 46 (spReckTW K (He.ga K "Book") 20):=⟨_,_,ok_reckoned_tree (n:=20) B g_laden g_reckoned F_reckoned_tree,F_reckoned_tree.kp,b_reckoned_tree,m_reckoned_tree⟩
 have g_climb:Got P w K mg base "climb" ["book","worths","rule"] (46) (spClimb K (He.ga K "Book")):=⟨_,_,ok_climb B g_above g_reckoned F_climb,F_climb.kp,b_climb,m_climb⟩
 have g_own_ranks:Got P w K mg base "own_ranks" ["book"] (47) (spOwnRanks K (He.ga K "Book") (He.ga K "NoKind")):=⟨_,_,ok_own_ranks B g_ending_kinds g_rules_from_nought g_climb F_own_ranks,F_own_ranks.kp,b_own_ranks,m_own_ranks⟩
 have g_rank:GotX P w K mg base "rank" ["book","grove"] (73) (spRankW K (He.ga K "Book") (He.ga K "NoKind") (He.ga K "Endless")):=⟨_,_,ok_rank B g_check_kinds g_check_ends g_reckoned g_own_ranks F_rank,F_rank.kp,b_rank,m_rank⟩
 have g_check_hands:GotX P w K mg base "check_hands" ["book","grove","other_book","other"] (74) (spHands K (He.ga K "Book") (He.ga K "NoKind") (He.ga K "Endless")):=⟨_,_,ok_check_hands B g_check_kinds g_check_ends F_check_hands,F_check_hands.kp,b_check_hands,m_check_hands⟩
 have g_outlasts:GotX P w K mg base "outlasts" ["book","grove","other_book","other"] (75) (spOutl K (He.ga K "Book") (He.ga K "NoKind") (He.ga K "Endless")):=⟨_,_,ok_outlasts B g_check_hands g_is_less g_rank F_outlasts,F_outlasts.kp,b_outlasts,m_outlasts⟩
 have g__law_pot:Got P w K mg base "_law_pot" ["_law_script"] (1) (spPot K):=⟨_,_,ok__law_pot B F__law_pot,F__law_pot.kp,b__law_pot,m__law_pot⟩
 have g__law_take:Got P w K mg base "_law_take" ["_law_pot_here","_law_many"] (1) (spTakeR):=⟨_,_,ok__law_take B F__law_take,F__law_take.kp,b__law_take,m__law_take⟩
 have r__law_less:∀ n,Got P w K mg base "_law_less" ["_law_one","_law_other"] (n) (spLLess K n):=by
  intro n
  induction n with
  | zero=>exact ⟨_,_,none__law_lessq,F__law_less.kp,b__law_less,m__law_less⟩
  | succ n ih=>exact ⟨_,_,ok__law_less B ih F__law_less,F__law_less.kp,b__law_less,m__law_less⟩
 have g__law_less:Got P w K mg base "_law_less" ["_law_one","_law_other"] (40) (spLLess K 40):=r__law_less 40
 have g__law_behind:Got P w K mg base "_law_behind" ["_law_one","_law_other"] (41) (spBehindL K):=⟨_,_,ok__law_behind B g__law_less F__law_behind,F__law_behind.kp,b__law_behind,m__law_behind⟩
 have g__law_both:Got P w K mg base "_law_both" ["_law_one","_law_other"] (41) (spBothL K):=⟨_,_,ok__law_both B g__law_less F__law_both,F__law_both.kp,b__law_both,m__law_both⟩
 have g__law_above:Got P w K mg base "_law_above" ["_law_one","_law_other"] (42) (spAboveL K):=⟨_,_,ok__law_above B g__law_both g__law_less g__law_behind F__law_above,F__law_above.kp,b__law_above,m__law_above⟩
 have r_lrank:∀ n,Got P w K mg base "_law_rank" ["_law_book","_law_known","_law_grove"] (n+43) (spRkR K n)/\Got P w K mg base "_law_own" ["_law_book","_law_known","_law_name"] (n+43) (spOwR K n):=by
  intro n
  induction n with
  | zero=>exact ⟨⟨_,_,none_rkR,F__law_rank.kp,b__law_rank,m__law_rank⟩,⟨_,_,none_owR,F__law_own.kp,b__law_own,m__law_own⟩⟩
  | succ n ih=>exact ⟨⟨_,_,ok__law_rank B ih.2 ih.1 g__law_behind g__law_both F__law_rank,F__law_rank.kp,b__law_rank,m__law_rank⟩,⟨_,_,ok__law_own B g__law_above ih.1 g__law_less F__law_own,F__law_own.kp,b__law_own,m__law_own⟩⟩
 have g__law_rank:Got P w K mg base "_law_rank" ["_law_book","_law_known","_law_grove"] 220 (spRkR K 177):=(r_lrank 177).1
 have g__law_own:Got P w K mg base "_law_own" ["_law_book","_law_known","_law_name"] 220 (spOwR K 177):=(r_lrank 177).2
 have g__law_names:Got P w K mg base "_law_names" ["_law_pot_here","_law_many"] (2) (spNamesR K):=⟨_,_,ok__law_names B g__law_take F__law_names,F__law_names.kp,b__law_names,m__law_names⟩
 have r__law_drawn_grove:∀ n,Got P w K mg base "_law_drawn_grove" ["_law_pot_here","_law_names_here","_law_parts","_law_great"] (n+1) (spGroveR K n):=by
  intro n
  induction n with
  | zero=>exact ⟨_,_,none__law_drawn_grove,F__law_drawn_grove.kp,b__law_drawn_grove,m__law_drawn_grove⟩
  | succ n ih=>exact ⟨_,_,ok__law_drawn_grove B g__law_take ih g__law_grove_of F__law_drawn_grove,F__law_drawn_grove.kp,b__law_drawn_grove,m__law_drawn_grove⟩
 have g__law_drawn_grove:Got P w K mg base "_law_drawn_grove" ["_law_pot_here","_law_names_here","_law_parts","_law_great"] (13+1) (spGroveR K 13):=r__law_drawn_grove 13
 have g__law_drawn_book:Got P w K mg base "_law_drawn_book" ["_law_pot_here","_law_most","_law_told"] (16) (spBook57 K):=⟨_,_,ok__law_drawn_book B g__law_names g__law_take g__law_drawn_grove F__law_drawn_book,F__law_drawn_book.kp,b__law_drawn_book,m__law_drawn_book⟩
 have g__law_kinds:Got P w K mg base "_law_kinds" ["_law_book","_law_turned"] (1) (spKindsR K):=⟨_,_,ok__law_kinds B F__law_kinds,F__law_kinds.kp,b__law_kinds,m__law_kinds⟩
 have g_Book___init__:GotI P w K mg base "Book" (He.ga K "Book") ["self","kinds"] (88) (spBInit K (He.ga K "Book") (He.ga K "NoBook")):=⟨_,_,ok_Book___init__ B O_NoBook T_Book g_are_kinds F_Book___init__,h_Book___init__,b_Book___init__,m_Book⟩
 have g__law_two:Got P w K mg base "_law_two" ["_law_pot_here"] (92) (spTwo57 K (He.ga K "Book")):=⟨_,_,ok__law_two B g__law_drawn_book g_Book___init__ g__law_kinds g__law_take g__law_drawn_grove g__law_grove_of F__law_two,F__law_two.kp,b__law_two,m__law_two⟩
 have g_Duel___init__:GotI P w K mg base "Duel" (He.ga K "Duel") ["self","book","grove","other_book","other"] (75) (spDuelI K (He.ga K "Duel") (He.ga K "Book") (He.ga K "NoKind") (He.ga K "Endless")):=⟨_,_,ok_Duel___init__ B T_Duel g_check_hands F_Duel___init__,h_Duel___init__,b_Duel___init__,m_Duel⟩
 have g__law_refusal:Got P w K mg base "_law_refusal" ["_law_way","_law_made","_law_grove","_law_other","_law_far"] (95) (spRefl57 K (He.ga K "Book")):=⟨_,_,ok__law_refusal B T g_outlasts g_Duel___init__ F__law_refusal,F__law_refusal.kp,b__law_refusal,m__law_refusal⟩
 have g__law_refused:Got P w K mg base "_law_refused" ["_law_way","_law_made","_law_grove"] (98) (spRefd57 K (He.ga K "Book")):=⟨_,_,ok__law_refused B g_Book___init__ g__law_refusal F__law_refused,F__law_refused.kp,b__law_refused,m__law_refused⟩
 exact ok_law B g__law_pot g__law_two g__law_rank g_outlasts g__law_less g__law_grove_of g__law_refused F_law
end FT
open PySem PySem.W PySem.Calls PyProof.Rows
set_option maxRecDepth 100000 in
set_option maxHeartbeats 0 in
theorem PySem.Challenge.cw_felltimber_k57_who_outlasts_holds : PySem.Challenge.rw_felltimber_k57_who_outlasts.Holds := by
 w_on; o_law
 refine HandSHeadRun.head_any (r := OpenLaw.row PySem.Challenge.rw_felltimber_k57_who_outlasts) (q := view (OpenLaw.row PySem.Challenge.rw_felltimber_k57_who_outlasts).prog [88]) (H := FT.hk) (ob := FT.ob) (M := 9000) (loose := FT.loose) (d := HandSHeadRun.topDef (OpenLaw.row PySem.Challenge.rw_felltimber_k57_who_outlasts).prog 88) (kwd := []) FT.ob_eq
  (by kernel_rfl) (fun s => by kernel_rfl) FT.run (by kernel_rfl) (by kernel_rfl) (by kernel_rfl) (by rfl) (by first | assumption | decide +kernel) (by decide +kernel) ⟨rfl, rfl, rfl, rfl, rfl, by decide +kernel⟩ ?hw ?hc
 case hw => w_witness2
 case hc =>
  refine L2.walk_ofE (l := PySem.Challenge.rw_felltimber_k57_who_outlasts) (n := 63) (k := 230) (x := "_law_script") (CX := L2.CX0) rfl (by decide) (by kernel_rfl) ⟨rfl, by decide, by decide⟩ ?F (fun _ _ _ _ z => z)
  intro w mg fa h Y G hmg0
  obtain ⟨K, KX, c, cx⟩ := Y
  have hmg : mg ("law" : PySem.Str) = some (.ref fa) := by
   have e : (HandSHeadRun.topDef (OpenLaw.row PySem.Challenge.rw_felltimber_k57_who_outlasts).prog 88).name = ("law" : PySem.Str) := by kernel_rfl
   rw [<- e]
   exact hmg0
  obtain ⟨fd, hb, hF⟩ := FT.facts (P := (PySem.Challenge.rw_felltimber_k57_who_outlasts).prog) (w := w) KX G hmg c cx
  exact ⟨K, fd, FT.spLaw K, KX, hb, fun H a ns hl _ hS => ⟨a, ns, rfl, hS, hl, fun _ => rfl⟩, hF⟩
