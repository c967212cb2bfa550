import PyProof.Rows.All
import Wide.All
import OpenK.AllK
import Wide.FinOn
import KE.KStateDown
import KE.SortData
import HandS.ForMost
import HandS.More
import HandS.Walk
import HandS.Zip
import HandS.Style
import HandS.TupAny
import HandS.IsInst
import HandS.Wide
import HandS.Flow
import HandS.WordsExc
import HandS.Defaults
import HandS.Head0
import HandS.Head1
import HandS.Head2
import HandS.HeadEnd
import HandS.HeadHook1
import HandS.HeadHook2
import HandS.HeadNt
import KE.DataCmp
import HandS.SortKw
import PyProof.TupleOfSeq
import HandS.NoneIn
import HandS.ExcIs
import HandS.RevRange
import KE.GoesEnum
import KE.DataAny
import HandS.Conv
import HandS.SortInts
import HandS.FStr
import HandS.Strs
import HandS.TupSets
import HandS.DictComp
import HandS.ExcInit
import HandS.SetKeys
import HandS.SetTxt0
import HandS.SetBool
import HandS.SetFor
import KE.GoesEnumKw
import PyProof.Rows.CallKwBuiltin
import KE.DatumOrd
import HandS.ExcField
import HandS.HotCalls
import HandS.Replace
import HandS.TupLe
import KE.DataMinMax
import PyProof.StrBlock2
import HandS.WordsDict
import HandS.TupMul
import HandS.TryOnly
import PyProof.MaxThree
import PyProof.NeKinds
import HandS.Deep
import HandS.Dict
import KE.GoesMore
import PyProof.EqKinds
import HandS.Hot
import HandS.ExcCtx
import PySem.Challenge.RW_felltimber_k95_whole_long_plays_sink
set_option Elab.async false
set_option linter.all false
set_option maxRecDepth 100000
set_option maxHeartbeats 16000000
namespace FT
open PySem PySem.W PySem.Spec PyProof.Rows L2
theorem hunT {A:Around} {e:Env} {k:Nat} (hr:Room k (A.deeper e)):A.units+3+200 < cLine:=by
 have:=hr.un
 have h3:(A.deeper e).units=A.units+3:=rfl
 omega
theorem nmn {α:Type} {a:α}:¬ a ∈ ([]:List α):=List.not_mem_nil
theorem mcs {α:Type} {a:α} {l:List α}:a ∈ a::l:=List.mem_cons_self
theorem mcm {α:Type} (y:α) {a:α} {l:List α} (h:a ∈ l):a ∈ y::l:=List.mem_cons_of_mem y h
theorem mal {α:Type} {a:α} {l:List α} (k:List α) (h:a ∈ l):a ∈ l++k:=List.mem_append_left k h
theorem mar {α:Type} {a:α} {l:List α} (k:List α) (h:a ∈ l):a ∈ k++l:=List.mem_append_right k h
theorem z0s {n:Nat} (h:n<=10000000):n < sizeLine:=Nat.lt_of_le_of_lt h (by decide)
structure SB (ps:List Addr) (H H':Hp):Prop where
 keep:∀ b o,H b=some o->b ∉ ps->H' b=some o
 tups:∀ b xs,H b=some (.tup xs)->H' b=some (.tup xs)
 frzs:∀ b o u,H b=some (.frz o u)->H' b=some (.frz o u)
 dom:∀ b,H' b=none->H b=none
section
variable {K:PySem.W.Frag} {ps qs:List Addr} {H H' H1 H2:Hp} {a p:Addr} {xs:List V}
theorem SB.refl:SB ps H H:=⟨fun _ _ h _=>h,fun _ _ h=>h,fun _ _ _ h=>h,fun _ h=>h⟩
theorem SB.trans (a:SB ps H H1) (b:SB ps H1 H2):SB ps H H2 :=
 ⟨fun c o h n=>b.keep c o (a.keep c o h n) n,fun c x h=>b.tups c x (a.tups c x h),fun c o u h=>b.frzs c o u (a.frzs c o u h),fun c h=>a.dom c (b.dom c h)⟩
theorem SB.mono (h:SB ps H H') (hs:∀ b ∈ ps,b ∈ qs):SB qs H H':=⟨fun c o e n=>h.keep c o e fun z=>n (hs c z),h.tups,h.frzs,h.dom⟩
theorem SB.nil (h:SB [] H H'):SB ps H H':=h.mono fun _ z=>absurd z (nmn)
theorem SB.new (h:H p=none) (o:HO):SB ps H (upd H p o):=by
 refine ⟨fun b u e _=>?_,fun b u e=>?_,fun b v u e=>?_,fun b e=>?_⟩
 ·rw [upd_ne (ne_of_none e h)]; exact e
 ·rw [upd_ne (ne_of_none e h)]; exact e
 ·rw [upd_ne (ne_of_none e h)]; exact e
 ·by_cases q:b=p
  ·subst q; exact h
  ·rw [upd_ne q] at e; exact e
theorem SB.set (h:H p=some (.lst xs)) (hp:p ∈ ps) (o:HO):SB ps H (upd H p o):=by
 refine ⟨fun b u e n=>?_,fun b u e=>?_,fun b v u e=>?_,fun b e=>?_⟩
 ·rw [upd_ne (fun (z:b=p)=>n (by rw [z]; exact hp))]; exact e
 ·rw [upd_ne (fun (z:b=p)=>by subst z; rw [h] at e; cases e)]; exact e
 ·rw [upd_ne (fun (z:b=p)=>by subst z; rw [h] at e; cases e)]; exact e
 ·by_cases q:b=p
  ·subst q; rw [upd_same] at e; cases e
  ·rw [upd_ne q] at e; exact e
theorem SB.drop (h:SB (p::ps) H H') (n:H p=none):SB ps H H':=by
 refine ⟨fun b o e m=>h.keep b o e fun z=>?_,h.tups,h.frzs,h.dom⟩
 rcases List.mem_cons.mp z with z | z
 ·subst z; rw [n] at e; cases e
 ·exact m z
theorem SB.sqT (e:SB ps H H') (h:SqT K H a xs):SqT K H' a xs:=by
 rcases h with (h | ⟨o,h⟩) | h
 ·exact .inl (.inl (e.tups _ _ h))
 ·exact .inl (.inr ⟨o,e.frzs _ _ _ h⟩)
 ·exact .inr h
theorem SB.sqL (e:SB ps H H') (n:a ∉ ps) (h:SqL K H a xs):SqL K H' a xs:=by
 rcases h with (h | ⟨o,h⟩) | h
 ·exact .inl (.inl (e.keep _ _ h n))
 ·exact .inl (.inr ⟨o,e.frzs _ _ _ h⟩)
 ·exact .inr h
end
inductive Lad where
 | nil
 | cons (e:Lad) (m:Int) (r:Lad)
 deriving DecidableEq
namespace Lad
def encs:Lad->List PyData
 | .nil=>[]
 | .cons e m r=>.tuple [.tuple e.encs,.int m]::r.encs
def enc (l:Lad):PyData:=.tuple l.encs
def parts:Lad->Nat
 | .nil=>0
 | .cons e _ r=>1+e.parts+r.parts
def deep:Lad->Nat
 | .nil=>0
 | .cons e _ r=>max (1+e.deep) r.deep
def len:Lad->Nat
 | .nil=>0
 | .cons _ _ r=>1+r.len
theorem encs_length:∀ l:Lad,l.encs.length=l.len
 | .nil=>rfl
 | .cons e m r=>by show r.encs.length+1=1+r.len; rw [encs_length r,Nat.add_comm]
theorem len_parts:∀ l:Lad,l.len<=l.parts
 | .nil=>Nat.le_refl _
 | .cons e m r=>by have:=len_parts r; show 1+r.len<=1+e.parts+r.parts; omega
theorem alikes:∀ l k:Lad,alikeAll l.encs k.encs=true
 | .nil,_=>by simp [encs,alikeAll]
 | .cons e m r,.nil=>by simp [encs,alikeAll]
 | .cons e m r,.cons e' m' r'=>by
  have h1:=alikes e e'
  have h2:=alikes r r'
  simp [encs,alikeAll,alike,h1,h2]
theorem alike_enc (l k:Lad):alike l.enc k.enc=true:=by
 show alike (.tuple l.encs) (.tuple k.encs)=true
 rw [alike]; exact alikes l k
theorem encs_depth:∀ l:Lad,PyData.depthAll l.encs<=2*l.deep
 | .nil=>by simp [encs,PyData.depthAll,deep]
 | .cons e m r=>by
  have h1:=encs_depth e
  have h2:=encs_depth r
  simp only [encs,PyData.depthAll,PyData.depth,deep]
  omega
theorem enc_depth (l:Lad):l.enc.depth<=2*l.deep+1:=by
 have:=encs_depth l
 simp only [enc,PyData.depth]
 omega
theorem enc_ne (l:Lad):l.enc ≠ .none:=fun h=>nomatch h
end Lad
def rLtD (K:PySem.W.Frag):R2:=fun x y H Q=>∃ d e,Dp K H x d/\Dp K H y e/\alike d e=true/\d ≠ .none/\d.depth<=100/\Q (.bl (dataLt d e)) H
section
variable {X:Cx}
theorem zc1 (hu:X.A.units+100 < cLine):OpR X (compareOp .Lt) (rLtD X.K):=by
 intro pins s σ H x y v u Q I rx ry h
 obtain ⟨d,e,hd,he,al,hn,hdp,q⟩:=h
 obtain ⟨as,r1⟩:=Dp.reads I d x v hd rx
 obtain ⟨bs,r2⟩:=Dp.reads I e y u he ry
 exact rcLt_alike d e X.A s v u as bs r1 r2 al hn (by have:=Nat.min_le_left d.depth e.depth; omega) X.prog X.w X.xe _ ⟨.bl _,H,I,rfl,q⟩
end
mutual
def z03:PyData->Bool
 | .list _=>false
 | .dict _=>false
 | .tuple ds=>z07 ds
 | _=>true
def z07:List PyData->Bool
 | []=>true
 | d::ds=>z03 d&&z07 ds
end
section
variable {K:PySem.W.Frag} {ps:List Addr} {H H':Hp}
mutual
theorem z01 (e:SB ps H H'):∀ (d:PyData) (v:V),z03 d=true->Dp K H v d->Dp K H' v d
 | .none,_,_,h=>by cases h; exact .non
 | .bool b,_,_,h=>by cases h; exact .bl b
 | .int i,_,_,h=>by cases h; exact .int i
 | .str x,_,_,h=>by cases h; exact .str x
 | .list ds,_,n,_=>by simp [z03] at n
 | .dict ds,_,n,_=>by simp [z03] at n
 | .tuple ds,_,n,h=>by
  cases h with
  | tup hs ha=>exact .tup (e.sqT hs) (z7g e ds _ (by simpa [z03] using n) ha)
theorem z7g (e:SB ps H H'):∀ (ds:List PyData) (vs:List V),z07 ds=true->DpAll K H vs ds->DpAll K H' vs ds
 | [],_,_,h=>by cases h; exact .nil
 | d::ds,_,n,h=>by
  cases h with
  | cons h1 h2 =>
   simp [z07] at n
   exact .cons (z01 e d _ n.1 h1) (z7g e ds _ n.2 h2)
end
end
theorem Lad.noLists_encs:∀ l:Lad,z07 l.encs=true
 | .nil=>by simp [Lad.encs,z07]
 | .cons e m r=>by simp [Lad.encs,z07,z03,Lad.noLists_encs e,Lad.noLists_encs r]
theorem Lad.noList_enc (l:Lad):z03 l.enc=true:=by simp [Lad.enc,z03,Lad.noLists_encs l]
def LA (K:PySem.W.Frag) (H:Hp) (v:V) (l:Lad):Prop:=Dp K H v l.enc
section
variable {K:PySem.W.Frag} {ps:List Addr} {H H':Hp} {v:V} {l:Lad}
theorem LA.sb (h:LA K H v l) (e:SB ps H H'):LA K H' v l:=z01 e _ _ l.noList_enc h
theorem LA.tup (h:LA K H v l):∃ a xs,v=.ref a/\SqT K H a xs/\DpAll K H xs l.encs:=by
 have h':Dp K H v (.tuple l.encs):=h
 cases h' with
 | tup hs ha=>exact ⟨_,_,rfl,hs,ha⟩
theorem DpAll.length:∀ {vs:List V} {ds:List PyData},DpAll K H vs ds->vs.length=ds.length
 | _,_,.nil=>rfl
 | _,_,.cons _ t=>by rw [List.length_cons,List.length_cons,DpAll.length t]
theorem DpAll.get:∀ {vs:List V} {ds:List PyData} {i:Nat} {v:V},DpAll K H vs ds->vs[i]?=some v->∃ d,ds[i]?=some d/\Dp K H v d
 | _,_,_,_,.nil,e=>by simp at e
 | _,_,0,_,.cons h t,e=>by simp at e; subst e; exact ⟨_,rfl,h⟩
 | _,_,i+1,v,.cons h t,e=>by
  obtain ⟨d,h1,h2⟩:=DpAll.get (i:=i) (v:=v) t (by simpa using e)
  exact ⟨d,by simpa using h1,h2⟩
end
structure BI (mg:Str->Option Value):Prop where
 len:mg "len"=none
 isinstance:mg "isinstance"=none
 int:mg "int"=none
 bool:mg "bool"=none
 str:mg "str"=none
 tuple:mg "tuple"=none
 list:mg "list"=none
 all:mg "all"=none
 zip:mg "zip"=none
 sum:mg "sum"=none
 max:mg "max"=none
 range:mg "range"=none
 enumerate:mg "enumerate"=none
 abs:mg "abs"=none
 sorted:mg "sorted"=none
 min:mg "min"=none
 reversed:mg "reversed"=none
 any:mg "any"=none
 set:mg "set"=none
 dict:mg "dict"=none
 repr:mg "repr"=none
structure Got (P:Program) (w:World) (K:PySem.W.Frag) (mg:Str->Option Value) (base:Heap) (x:Str) (ps:List Str) (k:Nat) (sp:Sp):Prop where
 ex:∃ (f:Addr) (fd:FuncData),FnOk P w K mg base CX0 k f fd ps sp/\PySem.W.keepIn K (.ref f)=true/\Binds K fd ps []/\mg x=some (.ref f)
section
variable {X:Cx} {x:Str} {ps:List Str} {k:Nat} {sp:Sp} {e:Expr} {es:List Expr} {t:TA} {p pos:Pos}
theorem z00 (G:Got X.prog X.w X.K X.mg X.base x ps k sp) (hr:Room k X.A) (hg:Gl X x) (ha:PA X (e::es) t) (hdb:(x == ("__debug__":Str))=false:=by decide) (he:starEach (e::es) X.env=(false,eval e X.env)::starEach es X.env:=by rfl) (hpl:(backTo pos (starEach es X.env)).any (·.1)=false:=by rfl) :
  PE X (.Call (.Name x p) (e::es) [] pos) (tCall sp [] E0 t):=by
 obtain ⟨f,fd,h1,h2,h3,h4⟩:=G.ex
 exact pe_call h1 hr hg h4 h2 h3 .nil pass0 ha hdb he hpl
end
def zec (K:PySem.W.Frag):List V->Hp->VK->Prop:=fun xs H Q=>∃ (x:V) (T n:String) (b:Bool),xs=[x,.ty T]/\TyX K H x (.type n)/\kitB n T=some b/\Q (.bl b) H
section
variable {X:Cx}
theorem zbb:CallR X (.builtin "isinstance") (zec X.K):=by
 intro pins s σ H xs us Q I r h
 obtain ⟨x,T,n,b,rfl,ty,e,q⟩:=h
 exact call_isi pins s σ H _ us Q I r ⟨x,.ty T,.type n,.type T,b,rfl,.ty T,ty,kit_ty e,q⟩
theorem zkr {T:Str} {T':String} {pos:Pos} (hg:Gl X T) (hm:X.mg T=none) (hv:bootBuiltins T=some (.type T')) (hn:T ≠ "__name__":=by decide) (hd:(T == ("__debug__":Str))=false:=by decide):PE X (.Name T pos) (tC (.ty T')):=pe_bltn hg hm hv rfl hn hd
theorem z0t {e:Expr} {te:TE} {T:Str} {T':String} {p p2 pos:Pos} (B:BI X.mg) (he:PE X e te) (hm:X.mg T=none) (hv:bootBuiltins T=some (.type T')) (hg:Gl X "isinstance":=by rfl) (hg2:Gl X T:=by rfl) (hn:T ≠ "__name__":=by decide) (hd:(T == ("__debug__":Str))=false:=by decide)
  (hs:starEach [e,.Name T p2] X.env=(false,eval e X.env)::starEach [.Name T p2] X.env:=by rfl) (hpl:(backTo pos (starEach [.Name T p2] X.env)).any (·.1)=false:=by rfl) :
  PE X (.Call (.Name "isinstance" p) [e,.Name T p2] [] pos) (tCB (zec X.K) (tCons te (tCons (tC (.ty T')) tNil))) :=
 pe_callB zbb hg B.isinstance boot_isinstance (pa_cons he (pa_cons (zkr hg2 hm hv hn hd) pa_nil) hs) (by decide) (by decide) hs hpl
end
mutual
inductive Th (K:PySem.W.Frag) (ps:List Addr) (H:Hp):V->PyData->Prop
 | int (i:Int):Th K ps H (.int i) (.int i)
 | tup {a:Addr} {xs:List V} {ds:List PyData}:SqT K H a xs->z80 K ps H xs ds->Th K ps H (.ref a) (.tuple ds)
 | oth {v:V} {n:String}:TyX K H v (.type n)->kitB n "tuple"=some false->(kitB n "int"=some false\/n="bool")->(∀ a,v=.ref a->a ∉ ps)->Th K ps H v .none
inductive z80 (K:PySem.W.Frag) (ps:List Addr) (H:Hp):List V->List PyData->Prop
 | nil:z80 K ps H [] []
 | cons {v:V} {vs:List V} {d:PyData} {ds:List PyData}:Th K ps H v d->z80 K ps H vs ds->z80 K ps H (v::vs) (d::ds)
end
def z0u:PyData->Bool
 | .int i=>decide (1<=i)
 | _=>false
section
variable {K:PySem.W.Frag} {ps:List Addr} {H H':Hp}
theorem z37 {a:Addr} {xs:List V} (h:SqT K H a xs):TyX K H (.ref a) (.type "tuple"):=by
 rcases h with (h | ⟨o,h⟩) | ⟨o,its,n,h,c,_⟩
 ·exact .base (.tup h)
 ·exact .fTuple h
 ·exact .kTuple h c
theorem Th.whole {v:V} {d:PyData} (h:Th K ps H v d):∃ n b1 b2,TyX K H v (.type n)/\kitB n "int"=some b1/\(b1=true->kitB n "bool"=some b2)/\((b1&&!b2)=true->∃ i,v=.int i/\d=.int i)/\((b1&&!b2)=false->z0u d=false):=by
 cases h with
 | int i=>exact ⟨"int",true,false,.base (.int i),by decide +kernel,fun _=>by decide +kernel,fun _=>⟨i,rfl,rfl⟩,fun z=>(nomatch z)⟩
 | tup hs ha=>exact ⟨"tuple",false,false,(z37 hs),by decide +kernel,fun z=>(nomatch z),fun z=>(nomatch z),fun _=>rfl⟩
 | @oth v n ty k1 k2 _ =>
  rcases k2 with k2 | k2
  ·exact ⟨n,false,false,ty,k2,fun z=>(nomatch z),fun z=>(nomatch z),fun _=>rfl⟩
  ·subst k2
   exact ⟨"bool",true,true,ty,by decide +kernel,fun _=>by decide +kernel,fun z=>(nomatch z),fun _=>rfl⟩
theorem z2h {v:V} {n:String} (e:SB ps H H') (hn:∀ a,v=.ref a->a ∉ ps) (h:TyX K H v (.type n)):TyX K H' v (.type n):=by
 cases h with
 | base h =>
  cases h with
  | non=>exact .base .non
  | bl x=>exact .base (.bl x)
  | int i=>exact .base (.int i)
  | str x=>exact .base (.str x)
  | flt x=>exact .base (.flt x)
  | lst h=>exact .base (.lst (e.keep _ _ h (hn _ rfl)))
  | frz h=>exact .base (.frz (e.frzs _ _ _ h))
  | tup h=>exact .base (.tup (e.tups _ _ h))
  | dK h=>exact .base (.dK (e.keep _ _ h (hn _ rfl)))
  | dT h=>exact .base (.dT (e.keep _ _ h (hn _ rfl)))
 | byt b=>exact .byt b
 | set h=>exact .set (e.keep _ _ h (hn _ rfl))
 | kList h c=>exact .kList h c
 | kTuple h c=>exact .kTuple h c
 | kDict h c=>exact .kDict h c
 | fTuple h=>exact .fTuple (e.frzs _ _ _ h)
 | fDict h=>exact .fDict (e.frzs _ _ _ h)
end
inductive Bears (K:PySem.W.Frag) (H:Hp) {β:Type} (enc:β->PyData):List V->List β->Prop
 | nil:Bears K H enc [] []
 | cons {v:V} {vs:List V} {b:β} {bs:List β}:Dp K H v (enc b)->Bears K H enc vs bs->Bears K H enc (v::vs) (b::bs)
section
variable {K:PySem.W.Frag} {H H':Hp} {β:Type} {enc:β->PyData} {ps:List Addr}
theorem Bears.length:∀ {vs:List V} {bs:List β},Bears K H enc vs bs->vs.length=bs.length
 | _,_,.nil=>rfl
 | _,_,.cons _ t=>by rw [List.length_cons,List.length_cons,Bears.length t]
theorem Bears.dp:∀ {vs:List V} {bs:List β},Bears K H enc vs bs->DpAll K H vs (bs.map enc)
 | _,_,.nil=>.nil
 | _,_,.cons h t=>.cons h (Bears.dp t)
theorem Bears.of:∀ {vs:List V} {bs:List β},DpAll K H vs (bs.map enc)->Bears K H enc vs bs
 | [],[],_=>.nil
 | _::_,[],h=>by cases h
 | [],_::_,h=>by cases h
 | v::vs,b::bs,h=>by
  cases h with
  | cons h1 h2=>exact .cons h1 (Bears.of h2)
theorem Bears.get:∀ {vs:List V} {bs:List β} {i:Nat} {v:V},Bears K H enc vs bs->vs[i]?=some v->∃ b,bs[i]?=some b/\Dp K H v (enc b)
 | _,_,_,_,.nil,e=>by simp at e
 | _,_,0,_,.cons h t,e=>by simp at e; subst e; exact ⟨_,rfl,h⟩
 | _,_,i+1,v,.cons h t,e=>by
  obtain ⟨d,h1,h2⟩:=Bears.get (i:=i) (v:=v) t (by simpa using e)
  exact ⟨d,by simpa using h1,h2⟩
theorem Bears.append:∀ {xs ys:List V} {bs cs:List β},Bears K H enc xs bs->Bears K H enc ys cs->Bears K H enc (xs++ys) (bs++cs)
 | _,_,_,_,.nil,h=>h
 | _,_,_,_,.cons a b,h=>.cons a (Bears.append b h)
theorem Bears.sb (e:SB ps H H') (hn:∀ b,z03 (enc b)=true):∀ {xs:List V} {bs:List β},Bears K H enc xs bs->Bears K H' enc xs bs
 | _,_,.nil=>.nil
 | _,_,.cons a b=>.cons (z01 e _ _ (hn _) a) (Bears.sb e hn b)
end
section
variable {X:Cx} {pins:List (Addr × Obj)} {σ:L2.St} {H:Hp} {s:Shared} {β:Type} {enc:β->PyData}
theorem z28 (I:Inv X pins σ H s):∀ {vs:List V} {us:List Value} {bs:List β},Bears X.K H enc vs bs->Vals vs us ->
  EachIs (fun u b=>∃ v,RelV v u/\Dp X.K H v (enc b)) us bs/\EachIs (fun u b=>∃ as,Reads s.heap u (enc b) as) us bs
 | _,_,_,.nil,.nil=>⟨.nil,.nil⟩
 | _,_,_,.cons h t,.cons r u=>by
  obtain ⟨h1,h2⟩:=z28 I t u
  exact ⟨.cons ⟨_,r,h⟩ h1,.cons (Dp.reads I _ _ _ h r) h2⟩
theorem z36 {K:PySem.W.Frag}:∀ {us:List Value} {bs:List β},EachIs (fun u b=>∃ v,RelV v u/\Dp K H v (enc b)) us bs->∃ vs,Vals vs us/\Bears K H enc vs bs
 | _,_,.nil=>⟨[],.nil,.nil⟩
 | _,_,.cons ⟨v,r,h⟩ t=>by
  obtain ⟨vs,h1,h2⟩:=z36 t
  exact ⟨v::vs,.cons r h1,.cons h h2⟩
end
section
variable {P:Program} {w:World} {K:PySem.W.Frag} {mg:Str->Option Value} {base:Heap} {f:Addr} {fd:FuncData}
def z2a (K:PySem.W.Frag):Sp:=fun vs H Q _=>∃ (v:V) (n:String) (b1 b2:Bool),vs=[v]/\TyX K H v (.type n)/\kitB n "int"=some b1/\(b1=true->kitB n "bool"=some b2)/\Q (.bl (b1&&!b2)) H
def z7x (K:PySem.W.Frag) (ps:List Addr):Sp:=fun vs H Q _=>∃ (v:V) (d:PyData),vs=[v]/\Th K ps H v d/\Q (.bl (z0u d)) H
end
def ltsD:List PyData->List Bool
 | []=>[]
 | [_]=>[]
 | a::b::r=>dataLt a b::ltsD (b::r)
def z3a (ds:List PyData):Bool:=(ltsD ds).all id
theorem z33:∀ ds:List PyData,(ltsD ds).length=ds.length-1
 | []=>rfl
 | [_]=>rfl
 | a::b::r=>by
  have h:=z33 (b::r)
  show (ltsD (b::r)).length+1=_
  rw [h]; simp
theorem z96:∀ (ds:List PyData) (i:Nat) (d e:PyData),ds[i]?=some d->ds[i+1]?=some e->(ltsD ds)[i]?=some (dataLt d e)
 | [],_,_,_,h,_=>by simp at h
 | [_],_,_,_,_,h=>by simp at h
 | a::b::r,0,d,e,h1,h2=>by simp at h1 h2; subst h1 h2; rfl
 | a::b::r,i+1,d,e,h1,h2=>by
  have:=z96 (b::r) i d e (by simpa using h1) (by simpa using h2)
  simpa [ltsD] using this
theorem cut1 (xs:List V):cutV xs (some 1) none=xs.drop 1:=by
 unfold cutV
 have h1:HT.sIx xs.length 0 (some 1)=min 1 xs.length:=HT.sIx_nat xs.length 0 1
 have h2:HT.sIx xs.length xs.length none=xs.length:=rfl
 rw [h1,h2]
 cases xs with
 | nil=>rfl
 | cons x r =>
  have:min 1 (x::r).length=1:=by simp
  rw [this]
  simp
section
variable {P:Program} {w:World} {K:PySem.W.Frag} {mg:Str->Option Value} {base:Heap} {f:Addr} {fd:FuncData}
def OkD (d:PyData):Prop:=z03 d=true/\d ≠ .none/\d.depth<=100
def z7i (K:PySem.W.Frag):Sp:=fun vs H Q _=>∃ (a:Addr) (xs:List V) (ds:List PyData),vs=[.ref a]/\SqL K H a xs/\DpAll K H xs ds/\(∀ d ∈ ds,OkD d)/\AllAlike ds/\xs.length<=1000 /\
 ∀ H',SB [] H H'->Q (.bl (z3a ds)) H'
abbrev z99:List Str:=["things","low","high"]
end
def Lad.num (i:Int):Lad:=if i=0 then .nil else .cons .nil i .nil
def Lad.lt (l k:Lad):Bool:=dataLt l.enc k.enc
section
variable {P:Program} {w:World} {K:PySem.W.Frag} {mg:Str->Option Value} {base:Heap} {f:Addr} {fd:FuncData}
theorem z7u {H:Hp} {p:Addr} (h:SqT K H p []):LA K H (.ref p) .nil:=Dp.tup h .nil
theorem zce {H:Hp} {p q:Addr} {u:V} {e:Lad} {m:Int} (h:SqT K H p [.ref q]) (h2:SqT K H q [u,.int m]) (h3:LA K H u e):LA K H (.ref p) (.cons e m .nil) :=
 Dp.tup h (.cons (.tup h2 (.cons h3 (.cons (.int m) .nil))) .nil)
def z7l (K:PySem.W.Frag):Sp:=fun vs H Q _=>∃ i:Int,vs=[.int i]/\∀ v H',SB [] H H'->LA K H' v (Lad.num i)->Q v H'
def z3e (K:PySem.W.Frag):Sp:=fun vs H Q _=>∃ (v u:V) (l k:Lad),vs=[v,u]/\LA K H v l/\LA K H u k/\l.deep<=45/\Q (.bl (l.lt k)) H
end
namespace Lad
def ps:Lad->List (Lad × Int)
 | .nil=>[]
 | .cons e m r=>(e,m)::r.ps
def ofPs:List (Lad × Int)->Lad
 | []=>.nil
 | (e,m)::r=>.cons e m (ofPs r)
def pEnc (p:Lad × Int):PyData:=.tuple [p.1.enc,.int p.2]
theorem ofPs_ps:∀ l:Lad,ofPs l.ps=l
 | .nil=>rfl
 | .cons e m r=>by show cons e m (ofPs r.ps)=_; rw [ofPs_ps r]
theorem ps_ofPs:∀ l:List (Lad × Int),(ofPs l).ps=l
 | []=>rfl
 | (e,m)::r=>by show (e,m)::(ofPs r).ps=_; rw [ps_ofPs r]
theorem encs_ps:∀ l:Lad,l.encs=l.ps.map pEnc
 | .nil=>rfl
 | .cons e m r=>by show _::r.encs=pEnc (e,m)::r.ps.map pEnc; rw [encs_ps r]; rfl
theorem ps_length (l:Lad):l.ps.length=l.len:=by rw [<- encs_length,encs_ps,List.length_map]
theorem mem_deep:∀ (l:Lad) (p:Lad × Int),p ∈ l.ps->p.1.deep < l.deep
 | .nil,_,h=>by simp [ps] at h
 | .cons e m r,p,h=>by
  rcases List.mem_cons.mp h with h | h
  ·subst h; show e.deep < max (1+e.deep) r.deep; omega
  ·have:=mem_deep r p h; show p.1.deep < max (1+e.deep) r.deep; omega
end Lad
section
variable {P:Program} {w:World} {K:PySem.W.Frag} {mg:Str->Option Value} {base:Heap} {f:Addr} {fd:FuncData}
theorem z10 {H:Hp} {v:V} {p:Lad × Int} (h:Dp K H v (Lad.pEnc p)):∃ a u,v=.ref a/\SqT K H a [u,.int p.2]/\LA K H u p.1:=by
 have h':Dp K H v (.tuple [p.1.enc,.int p.2]):=h
 cases h' with
 | tup hs ha =>
  cases ha with
  | cons a1 a2 =>
   cases a2 with
   | cons b1 b2 =>
    cases b2
    cases b1
    exact ⟨_,_,rfl,hs,a1⟩
abbrev zlu (K:PySem.W.Frag):TG:=gTup K 2 (gCons (gName 1) (gCons (gName 2) gNil))
end
def exp0:PyData->PyData
 | .tuple (e::_)=>e
 | _=>.none
mutual
def ladD:PyData->Bool
 | .tuple ds=>zdy ds&&z3a (ds.map exp0).reverse
 | _=>false
def zdy:List PyData->Bool
 | []=>true
 | d::ds=>ladP d&&zdy ds
def ladP:PyData->Bool
 | .tuple ds=>zli ds
 | _=>false
def zli:List PyData->Bool
 | []=>false
 | e::r=>ladD e&&z0y r
def z0y:List PyData->Bool
 | []=>false
 | m::r=>z0u m&&r.isEmpty
end
theorem z4r {ds:List PyData} {i:Nat} {d:PyData} (h:ds[i]?=some d):d.depth<=PyData.depthAll ds:=PyData.depth_le_depthAll ds d (List.mem_of_getElem? h)
section
variable {P:Program} {w:World} {K:PySem.W.Frag} {mg:Str->Option Value} {base:Heap} {f:Addr} {fd:FuncData} {ps:List Addr}
mutual
def wide:PyData->Nat
 | .tuple ds=>max ds.length (z14 ds)
 | _=>0
def z14:List PyData->Nat
 | []=>0
 | d::ds=>max (wide d) (z14 ds)
end
theorem z71:∀ (ds:List PyData) (d:PyData),d ∈ ds->wide d<=z14 ds
 | [],_,h=>by simp at h
 | e::ds,d,h=>by
  rw [z14]
  rcases List.mem_cons.mp h with h | h
  ·subst h; omega
  ·have:=z71 ds d h; omega
theorem z3p (ds:List PyData):wide (.tuple ds)=max ds.length (z14 ds):=by rw [wide]
end
section
variable {K:PySem.W.Frag} {H:Hp}
theorem DpAll.append:∀ {xs ys:List V} {ds es:List PyData},DpAll K H xs ds->DpAll K H ys es->DpAll K H (xs++ys) (ds++es)
 | _,_,_,_,.nil,h=>h
 | _,_,_,_,.cons a b,h=>.cons a (DpAll.append b h)
end
section
variable {K:PySem.W.Frag} {a b:Addr} {xs ys:List V}
theorem zbv {n:Nat} (hn:n=min xs.length ys.length):Walk (RZ.ItzT K a b) n (fun H=>SqT K H a xs/\SqT K H b ys) (YPair (fun i=>xs[i]?) (fun i=>ys[i]?)):=by
 subst hn
 refine ⟨fun i H hi h=>?_,fun H h=>?_,fun i H x H' hi h y=>?_⟩
 ·have h1:i < xs.length:=by omega
  have h2:i < ys.length:=by omega
  exact ⟨xs,ys,xs[i],ys[i],h.1,h.2,List.getElem?_eq_getElem h1,List.getElem?_eq_getElem h2⟩
 ·exact ⟨xs,ys,h.1,h.2,by omega⟩
 ·obtain ⟨T,x1,y1,e1,e2,e3,e4,e5⟩:=y
  exact ⟨T,x1,y1,e1,e2,e3,e4 xs h.1,e5 ys h.2⟩
end
theorem ib (m m':Int):(m == m')=decide (m=m'):=by by_cases h:m=m' <;> simp [h]
theorem Lad.eqvs:∀ l k:Lad,PyData.eqvAll l.encs k.encs=decide (l=k)
 | .nil,.nil=>by simp [encs,PyData.eqvAll]
 | .nil,.cons _ _ _=>by simp [encs,PyData.eqvAll]
 | .cons _ _ _,.nil=>by simp [encs,PyData.eqvAll]
 | .cons e m r,.cons e' m' r'=>by
  have h1:=Lad.eqvs e e'
  have h2:=Lad.eqvs r r'
  simp [encs,PyData.eqvAll,PyData.eqv,h1,h2,Bool.and_assoc,ib]
theorem Lad.eqv_enc (l k:Lad):PyData.eqv l.enc k.enc=decide (l=k):=by
 rw [Lad.enc,Lad.enc,PyData.eqv]; exact Lad.eqvs l k
theorem Lad.lt_nil_nil:Lad.lt .nil .nil=false:=by decide +kernel
theorem Lad.lt_nil_cons (e:Lad) (m:Int) (r:Lad):Lad.lt .nil (.cons e m r)=true:=by
 unfold Lad.lt Lad.enc
 rw [dataLt_tuple,Lad.encs,Lad.encs,toks_all_cons,show keyToksAll []=[.inl 0] by simp [keyToksAll],lex_atom (by simp),lex_one]
 decide +kernel
theorem Lad.lt_cons_nil (e:Lad) (m:Int) (r:Lad):Lad.lt (.cons e m r) .nil=false:=by
 unfold Lad.lt Lad.enc
 rw [dataLt_tuple,Lad.encs,Lad.encs,toks_all_cons,show keyToksAll []=[.inl 0] by simp [keyToksAll],lex_atom (by simp),lex_one]
 decide +kernel
theorem Lad.lt_cons (e e':Lad) (m m':Int) (r r':Lad):Lad.lt (.cons e m r) (.cons e' m' r')=if e=e' then (if m=m' then r.lt r' else decide (m < m')) else e.lt e':=by
 have al:alike (.tuple [e.enc,.int m]) (.tuple [e'.enc,.int m'])=true:=by simp [alike,alikeAll,e.alike_enc e']
 have h1:Lad.lt (.cons e m r) (.cons e' m' r')=if PyData.eqv (.tuple [e.enc,.int m]) (.tuple [e'.enc,.int m'])=true then r.lt r' else dataLt (.tuple [e.enc,.int m]) (.tuple [e'.enc,.int m']):=by
  unfold Lad.lt
  rw [show (Lad.cons e m r).enc=.tuple (.tuple [e.enc,.int m]::r.encs) from rfl,show (Lad.cons e' m' r').enc=.tuple (.tuple [e'.enc,.int m']::r'.encs) from rfl,dataLt_tuple,dataLt_cons al]
  rw [show dataLt r.enc r'.enc=PyProof.Rows.lexLt itemOrd (keyToksAll r.encs) (keyToksAll r'.encs) from dataLt_tuple _ _]
 have h2:PyData.eqv (.tuple [e.enc,.int m]) (.tuple [e'.enc,.int m'])=(decide (e=e')&&decide (m=m')):=by
  simp [PyData.eqv,PyData.eqvAll,Lad.eqv_enc,ib]
 rw [h1,h2,dataLt_pair (e.alike_enc e') (by simp [alike]),Lad.eqv_enc]
 by_cases he:e=e'
 ·by_cases hm:m=m'
  ·simp [he,hm]
  ·simp [he,hm,PyData.eqv,dataLt_int]
 ·simp [he,Lad.lt]
namespace Lad
theorem lt_irrefl:∀ l:Lad,l.lt l=false
 | .nil=>lt_nil_nil
 | .cons e m r=>by rw [lt_cons,if_pos rfl,if_pos rfl]; exact lt_irrefl r
theorem lt_nil_r:∀ l:Lad,l.lt .nil=false
 | .nil=>lt_nil_nil
 | .cons e m r=>lt_cons_nil e m r
theorem lt_ne {l k:Lad} (h:l.lt k=true):l ≠ k:=fun z=>by subst z; rw [lt_irrefl] at h; cases h
theorem lt_tri:∀ l k:Lad,l ≠ k->l.lt k=false->k.lt l=true
 | .nil,.nil,h,_=>absurd rfl h
 | .nil,.cons e m r,_,h=>by rw [lt_nil_cons] at h; cases h
 | .cons e m r,.nil,_,_=>lt_nil_cons e m r
 | .cons e m r,.cons e' m' r',hne,h=>by
  rw [lt_cons] at h ⊢
  by_cases he:e=e'
  ·subst he
   rw [if_pos rfl] at h ⊢
   by_cases hm:m=m'
   ·subst hm
    rw [if_pos rfl] at h ⊢
    exact lt_tri r r' (fun z=>hne (by rw [z])) h
   ·rw [if_neg hm] at h
    rw [if_neg (fun z=>hm z.symm)]
    have:=of_decide_eq_false h
    exact decide_eq_true (by omega)
  ·rw [if_neg he] at h
   rw [if_neg (fun z=>he z.symm)]
   exact lt_tri e e' he h
theorem lt_trans:∀ l k j:Lad,l.lt k=true->k.lt j=true->l.lt j=true
 | _,_,.nil,_,h=>by rw [lt_nil_r] at h; cases h
 | _,.nil,.cons _ _ _,h,_=>by rw [lt_nil_r] at h; cases h
 | .nil,.cons _ _ _,.cons e m r,_,_=>lt_nil_cons e m r
 | .cons e m r,.cons e' m' r',.cons e'' m'' r'',h1,h2=>by
  rw [lt_cons] at h1 h2 ⊢
  by_cases he:e=e'
  ·subst he
   rw [if_pos rfl] at h1
   by_cases he2:e=e''
   ·subst he2
    rw [if_pos rfl] at h2 ⊢
    by_cases hm:m=m'
    ·subst hm
     rw [if_pos rfl] at h1
     by_cases hm2:m=m''
     ·subst hm2
      rw [if_pos rfl] at h2 ⊢
      exact lt_trans r r' r'' h1 h2
     ·rw [if_neg hm2] at h2 ⊢
      exact h2
    ·rw [if_neg hm] at h1
     have a1:=of_decide_eq_true h1
     by_cases hm2:m'=m''
     ·subst hm2
      rw [if_neg hm]
      exact h1
     ·rw [if_neg hm2] at h2
      have a2:=of_decide_eq_true h2
      rw [if_neg (by omega)]
      exact decide_eq_true (by omega)
   ·rw [if_neg he2] at h2 ⊢
    exact h2
  ·rw [if_neg he] at h1
   by_cases he2:e'=e''
   ·subst he2
    rw [if_neg he]
    exact h1
   ·rw [if_neg he2] at h2
    have h3:=lt_trans e e' e'' h1 h2
    rw [if_neg (lt_ne h3)]
    exact h3
theorem lt_asymm {l k:Lad} (h:l.lt k=true):k.lt l=false:=by
 cases e:k.lt l with
 | false=>rfl
 | true =>
  have:=lt_trans l k l h e
  rw [lt_irrefl] at this
  cases this
def Ok (B:Int):Lad->Prop
 | .nil=>True
 | .cons e m r=>e.Ok B/\1<=m/\m < B/\r.Ok B/\∀ p ∈ r.ps,p.1.lt e=true
theorem Ok.mono {B C:Int} (h:B<=C):∀ {l:Lad},l.Ok B->l.Ok C
 | .nil,_=>trivial
 | .cons e m r,⟨h1,h2,h3,h4,h5⟩=>⟨Ok.mono h h1,h2,by omega,Ok.mono h h4,h5⟩
theorem ok_ps {B:Int}:∀ {ps:List (Lad × Int)},(ofPs ps).Ok B ↔ (∀ p ∈ ps,p.1.Ok B/\1<=p.2/\p.2 < B)/\ps.Pairwise (fun p q=>q.1.lt p.1=true)
 | []=>by simp [ofPs,Ok]
 | (e,m)::r=>by
  have ih:=ok_ps (B:=B) (ps:=r)
  show (e.Ok B/\1<=m/\m < B/\(ofPs r).Ok B/\∀ p ∈ (ofPs r).ps,p.1.lt e=true) ↔ _
  rw [ps_ofPs,List.pairwise_cons,ih]
  constructor
  ·rintro ⟨h1,h2,h3,⟨h4,h5⟩,h6⟩
   refine ⟨fun p hp=>?_,h6,h5⟩
   rcases List.mem_cons.mp hp with hp | hp
   ·subst hp; exact ⟨h1,h2,h3⟩
   ·exact h4 p hp
  ·rintro ⟨h1,h2,h3⟩
   have h4:=h1 (e,m) (mcs ..)
   exact ⟨h4.1,h4.2.1,h4.2.2,⟨fun p hp=>h1 p (mcm _ hp),h3⟩,h2⟩
theorem ok_iff {B:Int} {l:Lad}:l.Ok B ↔ (∀ p ∈ l.ps,p.1.Ok B/\1<=p.2/\p.2 < B)/\l.ps.Pairwise (fun p q=>q.1.lt p.1=true):=by
 have:=ok_ps (B:=B) (ps:=l.ps)
 rw [ofPs_ps] at this
 exact this
end Lad
theorem zgh (ns:List Int) (lo hi:Option Int):∃ ms:List Int,cutV (ns.map V.int) lo hi=ms.map V.int/\ms.length<=ns.length:=by
 refine ⟨(ns.drop (HT.sIx (ns.map V.int).length 0 lo)).take (HT.sIx (ns.map V.int).length (ns.map V.int).length hi-HT.sIx (ns.map V.int).length 0 lo),?_,?_⟩
 ·unfold cutV
  rw [List.map_take,List.map_drop]
 ·rw [List.length_take,List.length_drop]; omega
section
variable {P:Program} {w:World} {K:PySem.W.Frag} {mg:Str->Option Value} {base:Heap} {f:Addr} {fd:FuncData}
def spLaw (K:PySem.W.Frag):Sp:=fun vs H Q _=>∃ (a:Addr) (ns:List Int),vs=[.ref a]/\SqL K H a (ns.map V.int)/\ns.length<=63/\∀ H',Q (.bl true) H'
theorem z0o {ps:List Str} {k:Nat} {sp:Sp} (no:∀ vs H Q E,¬ sp vs H Q E):FnOk P w K mg base CX0 k f fd ps sp :=
 ⟨fun vs H Q E h=>absurd h (no vs H Q E),fun A outer s H args us vs Q E _ _ _ _ h=>absurd h (no vs H Q E)⟩
end
namespace Lad
theorem lays:∀ l:Lad,PyData.canLayAll0 l.encs=true
 | .nil=>by simp [encs,PyData.canLayAll0]
 | .cons e m r=>by simp [encs,PyData.canLayAll0,PyData.canLay0,lays e,lays r]
theorem shaped_enc {l:Lad} (h:l.deep<=31):SeqAt.shaped l.enc=true:=by
 have:=l.enc_depth
 unfold SeqAt.shaped
 rw [show l.enc.canLay0=true by rw [enc,PyData.canLay0]; exact lays l]
 simp; omega
theorem pEnc_alike (p q:Lad × Int):alike (pEnc p) (pEnc q)=true:=by simp [pEnc,alike,alikeAll,p.1.alike_enc q.1]
theorem pEnc_noList (p:Lad × Int):z03 (pEnc p)=true:=by simp [pEnc,z03,z07,Lad.noList_enc]
theorem pEnc_depth (p:Lad × Int):(pEnc p).depth<=2*p.1.deep+2:=by
 have:=p.1.enc_depth
 simp only [pEnc,PyData.depth,PyData.depthAll]; omega
theorem pEnc_all (bs:List (Lad × Int)):AllAlike (bs.map pEnc):=AllAlike.of pEnc_alike
theorem pEnc_sortable (bs:List (Lad × Int)):Sortable (bs.map pEnc):=Sortable.tuples fun b=>⟨_,_,rfl⟩
theorem pLt (p q:Lad × Int):dataLt (pEnc p) (pEnc q)=if p.1=q.1 then decide (p.2 < q.2) else p.1.lt q.1:=by
 unfold pEnc
 rw [dataLt_pair (p.1.alike_enc q.1) (by simp [alike]),Lad.eqv_enc]
 by_cases h:p.1=q.1
 ·rw [if_pos (by simp [h]),if_pos h,dataLt_int]
  by_cases h2:p.2=q.2
  ·simp [PyData.eqv,h2]
  ·simp [PyData.eqv,h2]
 ·rw [if_neg (by simp [h]),if_neg h]; rfl
def tot:List (Lad × Int)->Nat
 | []=>0
 | p::r=>1+p.1.parts+tot r
theorem parts_ofPs:∀ bs:List (Lad × Int),(ofPs bs).parts=tot bs
 | []=>rfl
 | (e,m)::r=>by show 1+e.parts+(ofPs r).parts=1+e.parts+tot r; rw [parts_ofPs r]
theorem tot_append:∀ bs cs:List (Lad × Int),tot (bs++cs)=tot bs+tot cs
 | [],cs=>by simp [tot]
 | p::r,cs=>by show 1+p.1.parts+tot (r++cs)=_; rw [tot_append r cs,tot]; omega
theorem tot_filter (f:Lad × Int->Bool):∀ bs:List (Lad × Int),tot (bs.filter f)<=tot bs
 | []=>by simp [tot]
 | p::r=>by
  have:=tot_filter f r
  rw [List.filter_cons]
  split
  ·show 1+p.1.parts+tot (r.filter f)<=1+p.1.parts+tot r; omega
  ·show tot (r.filter f)<=1+p.1.parts+tot r; omega
theorem tot_perm {bs cs:List (Lad × Int)} (h:bs.Perm cs):tot bs=tot cs:=by
 induction h with
 | nil=>rfl
 | cons x _ ih=>simp only [tot]; omega
 | swap x y l=>simp only [tot]; omega
 | trans _ _ h1 h2=>omega
theorem deep_ofPs {n:Nat}:∀ {bs:List (Lad × Int)},(∀ b ∈ bs,b.1.deep < n)->(ofPs bs).deep<=n
 | [],_=>Nat.zero_le _
 | (e,m)::r,h=>by
  have h1:=deep_ofPs (bs:=r) fun b hb=>h b (mcm _ hb)
  have h2:e.deep < n:=h (e,m) (mcs ..)
  show max (1+e.deep) (ofPs r).deep<=n
  omega
end Lad
theorem z4n {K:PySem.W.Frag} {H:Hp} {a:Addr} {xs:List V} {bs:List (Lad × Int)} (h:SqT K H a xs) (hb:Bears K H Lad.pEnc xs bs):LA K H (.ref a) (Lad.ofPs bs):=by
 refine Dp.tup h ?_
 rw [Lad.encs_ps,Lad.ps_ofPs]
 exact hb.dp
theorem z0q {K:PySem.W.Frag} {H:Hp} {v:V} {l:Lad} (h:LA K H v l):∃ a xs,v=.ref a/\SqT K H a xs/\Bears K H Lad.pEnc xs l.ps:=by
 obtain ⟨a,xs,rfl,hs,ha⟩:=h.tup
 rw [Lad.encs_ps] at ha
 exact ⟨a,xs,rfl,hs,Bears.of ha⟩
def zet (K:PySem.W.Frag):R2:=fun x y H Q=>∃ a b xs ys,x=.ref a/\y=.ref b/\SqT K H a xs/\SqT K H b ys/\xs.length+ys.length<=10000000/\∀ c H',SB [] H H'->SqT K H' c (xs++ys)->Q (.ref c) H'
def rSlB (K:PySem.W.Frag):V->Option Int->Option Int->Hp->VK->Prop:=fun x lo hi H Q=>∃ a xs,x=.ref a/\SqT K H a xs/\∀ c H',SB [] H H'->SqT K H' c (cutV xs lo hi)->Q (.ref c) H'
section
variable {X:Cx}
theorem z1p:OpR X (binaryOp .Add) (zet X.K):=by
 intro pins s σ H x y v u Q I rx ry h
 obtain ⟨a,b,xs,ys,rfl,rfl,ha,hb,hz,q⟩:=h
 refine op_catA pins s σ H _ _ v u Q I rx ry ⟨a,b,xs,ys,rfl,rfl,ha,hb,by rw [sizeLine_eq]; omega,fun e=>?_,fun e1 e2=>?_,fun e1 e2 p hp=>?_⟩
 ·subst e; exact q b H SB.refl hb
 ·subst e2; exact q a H SB.refl (by rw [List.append_nil]; exact ha)
 ·exact q p _ (SB.new hp _) (SqT.of upd_same)
theorem zae:SlR X (rSlB X.K):=by
 intro pins s σ H x v vl vu lo hi sl Q I rx hs pl pu h
 obtain ⟨a,xs,rfl,hx,q⟩:=h
 refine sl_tupA pins s σ H _ v vl vu lo hi sl Q I rx hs pl pu ⟨a,xs,rfl,hx,fun e=>?_,fun e p hp=>?_⟩
 ·refine q a H SB.refl ?_
  have:cutV xs lo hi=xs:=by
   unfold cutV
   rw [e.1,e.2]
   simp
  rw [this]; exact hx
 ·exact q p _ (SB.new hp _) (SqT.of upd_same)
end
theorem zac (xs:List V) (k:Nat):cutV xs none (some (k:Int))=xs.take k:=by
 unfold cutV
 have h1:HT.sIx xs.length 0 none=0:=rfl
 have h2:HT.sIx xs.length xs.length (some (k:Int))=min k xs.length:=HT.sIx_nat xs.length xs.length k
 rw [h1,h2]
 simp
theorem zgv (xs:List V) (k:Nat):cutV xs (some (k:Int)) none=xs.drop k:=by
 unfold cutV
 have h1:HT.sIx xs.length 0 (some (k:Int))=min k xs.length:=HT.sIx_nat xs.length 0 k
 have h2:HT.sIx xs.length xs.length none=xs.length:=rfl
 rw [h1,h2]
 by_cases h:k<=xs.length
 ·rw [Nat.min_eq_left h,List.take_of_length_le (by rw [List.length_drop]; omega)]
 ·rw [Nat.min_eq_right (by omega),List.drop_eq_nil_of_le (Nat.le_refl _),List.drop_eq_nil_of_le (by omega)]
  simp
namespace Lad
def sumAt (ps:List (Lad × Int)) (e:Lad):Int:=((ps.filter fun p=>decide (p.1=e)).map (·.2)).sum
def bhd (l k:Lad):Lad:=match k.ps with
 | []=>l
 | (e,m)::r=>ofPs (l.ps.filter (fun p=>e.lt p.1)++(e,sumAt l.ps e+m)::r)
theorem bhd_nil (l:Lad):bhd l .nil=l:=rfl
theorem bhd_cons (l e:Lad) (m:Int) (r:Lad):bhd l (.cons e m r)=ofPs (l.ps.filter (fun p=>e.lt p.1)++(e,sumAt l.ps e+m)::r.ps):=rfl
end Lad
def z73 (K:PySem.W.Frag):Sp:=fun vs H Q _=>∃ (v u:V) (l e:Lad),vs=[v,u]/\LA K H v l/\LA K H u e/\l.deep<=30/\e.deep<=30/\l.parts<=1000000/\∀ H',SB [] H H'->Q (.int (Lad.sumAt l.ps e)) H'
def z2f (K:PySem.W.Frag):Sp:=fun vs H Q _=>∃ (v u:V) (l k:Lad),vs=[v,u]/\LA K H v l/\LA K H u k/\l.deep<=30/\k.deep<=30/\l.parts<=900000/\k.parts<=900000/\∀ (x:V) (H':Hp),SB [] H H'->LA K H' x (l.bhd k)->Q x H'
namespace Lad
theorem deep_parts_mem {l:Lad} {n:Nat} (h:l.deep<=n):∀ p ∈ l.ps,p.1.deep < n:=fun p hp=>Nat.lt_of_lt_of_le (mem_deep l p hp) h
end Lad
theorem SB.drop2 {p q:Addr} {H H':Hp} (h:SB [p,q] H H') (n:H q=none):SB [p] H H':=by
 refine ⟨fun b o e m=>h.keep b o e fun z=>?_,h.tups,h.frzs,h.dom⟩
 have z':b=p\/b=q:=by simpa using z
 rcases z' with z | z
 ·exact m (by simp [z])
 ·subst z; rw [n] at e; cases e
namespace Lad
theorem bhd_parts (l k:Lad):(bhd l k).parts<=l.parts+k.parts:=by
 cases k with
 | nil=>rw [bhd_nil]; omega
 | cons e m r =>
  rw [bhd_cons,parts_ofPs,tot_append]
  have h1:l.parts=tot l.ps:=by rw [<- parts_ofPs,ofPs_ps]
  have h2:=tot_filter (fun p=>e.lt p.1) l.ps
  have h3:r.parts=tot r.ps:=by rw [<- parts_ofPs,ofPs_ps]
  simp only [tot,Lad.parts]
  omega
theorem bhd_deep {n:Nat} {l k:Lad} (hl:l.deep<=n) (hk:k.deep<=n):(bhd l k).deep<=n:=by
 cases k with
 | nil=>rw [bhd_nil]; exact hl
 | cons e m r =>
  rw [bhd_cons]
  refine deep_ofPs fun b hb=>?_
  rcases List.mem_append.mp hb with hb | hb
  ·exact deep_parts_mem hl b (List.mem_filter.mp hb).1
  ·rcases List.mem_cons.mp hb with hb | hb
   ·subst hb; exact deep_parts_mem hk (e,m) (mcs ..)
   ·exact deep_parts_mem hk b (mcm _ hb)
end Lad
def z1x (K:PySem.W.Frag) (n:Nat):Sp:=fun vs H Q _=>∃ (v u:V) (l k:Lad),vs=[v,u]/\LA K H v l/\LA K H u k/\l.deep < n/\l.deep<=30/\k.deep<=30/\∀ H',SB [] H H'->Q (.bl (l.lt k)) H'
theorem Bears.at {K:PySem.W.Frag} {H:Hp} {β:Type} {enc:β->PyData}:∀ {vs:List V} {bs:List β} {i:Nat} {b:β},Bears K H enc vs bs->bs[i]?=some b->∃ v,vs[i]?=some v/\Dp K H v (enc b)
 | _,_,_,_,.nil,e=>by simp at e
 | _,_,0,_,.cons h t,e=>by simp at e; subst e; exact ⟨_,rfl,h⟩
 | _,_,i+1,b,.cons h t,e=>by
  obtain ⟨d,h1,h2⟩:=Bears.at (i:=i) (b:=b) t (by simpa using e)
  exact ⟨d,by simpa using h1,h2⟩
namespace Lad
theorem le_trans {a b c:Lad} (h1:b.lt a=false) (h2:c.lt b=false):c.lt a=false:=by
 cases e:c.lt a with
 | false=>rfl
 | true =>
  by_cases hab:a=b
  ·subst hab; rw [e] at h2; cases h2
  ·have h3:a.lt b=true:=lt_tri b a (fun z=>hab z.symm) h1
   have h4:=lt_trans c a b e h3
   rw [h4] at h2; cases h2
theorem le_of_lt {a b:Lad} (h:a.lt b=true):b.lt a=false:=lt_asymm h
end Lad
section
variable {P:Program} {w:World} {K:PySem.W.Frag} {mg:Str->Option Value} {base:Heap} {f:Addr} {fd:FuncData}
theorem zd1 {ps:List Str} {k:Nat}:FnOk P w K mg base CX0 k f fd ps (z1x K 0):=z0o fun vs H Q E ⟨v,u,l,k,_,_,_,h,_⟩=>by omega
end
section
variable {prog:Program} {w:World} {A:Around} {E:Value->Shared->Prop} {s:Shared} {β:Type} {vs:List Value} {bs:List β} {enc:β->PyData} {R:Value->β->Prop}
theorem z6t {t:Addr} {kw:List (Str × Value)} {b:Bool} {Q:Value->Shared->Prop} (hkw:∀ a,Builtin.«list.sort» ⟨[.ref a],kw⟩=Builtin.«list.sort» ⟨[.ref a],[(Str.ofString "reverse",.bool b)]⟩) (ha1:argsOk "sorted" ⟨[.ref t],kw⟩) (ha2:∀ x,argsOk "list.sort" ⟨[.ref x],kw⟩)
  (ht:IsTup s.heap t vs.toArray) (e:EachIs R vs bs) (er:EachIs (fun v b=>∃ as,Reads s.heap v (enc b) as) vs bs) (hal:AllAlike (bs.map enc)) (hk:Sortable (bs.map enc)) (hL:bs.length<=sizeLine)
  (hu:∀ b,b ∈ bs->A.units+2+(enc b).depth < cLine)
  (h:∀ (out:List Value) (h' h2:Heap) (n:Nat),(∀ b o,s.heap.get? b=some o->h'.get? b=some o)->(∀ b o,h'.get? b=some o->h2.get? b=some o)->h2.get? h'.objs.size=some (seqObj "list" out.toArray n)->out.length=bs.length->EachIs R out (bs.mergeSort (dataLe b enc))->Q (.ref h'.objs.size) { s with heap:=h2 }) :
  wpAny (model prog w) A (call (.builtin "sorted") [.ref t] kw) Q E s:=by
 have hlen:vs.length<=sizeLine:=by rw [e.length]; exact hL
 obtain ⟨o,ho,hc,n0,hd⟩:=id ht
 refine call_function_entry_kw kind_sorted plain_sorted entry_sorted ha1 ?_
 unfold Builtin.«sorted»
 refine wpAny_bind (m:=checkCount "sorted" 1 1 _) (wpAny_pure ?_)
 refine wpAny_bind (wpAny_collect_seq t (.inr rfl) ho hc hd (fun h' hk'=>?_) (by rw [List.size_toArray]; exact hlen))
 refine wpAny_bind (wpAny_newList ?_ hlen)
 show wpAny _ _ _ _ _ { s with heap:=h'.push (seqObj "list" vs.toArray 0) }
 have hat:(h'.push (seqObj "list" vs.toArray 0)).get? h'.objs.size=some (seqObj "list" vs.toArray 0):=Heap.get?_push_size _ rfl
 refine wpAny_bind (wpAny_holding (wpAny_call_entry_kw slot_list_sort ⟨_,hat,rfl⟩ entry_list_sort ?body (ha2 _)))
 case body =>
  rw [hkw]
  have old:∀ b o,h'.get? b=some o->(sortingHeap (h'.push (seqObj "list" vs.toArray 0)) h'.objs.size vs).get? b=some o:=fun b o q=>sortingHeap_old (Nat.ne_of_lt (Heap.lt_size q)) (Heap.get?_push_of_some _ q)
  have er':EachIs (fun v b=>∃ as,Reads (sortingHeap (h'.push (seqObj "list" vs.toArray 0)) h'.objs.size vs) v (enc b) as) vs bs:=er.mono fun _ _ ⟨as,r⟩=>⟨as,PyProof.Rows.Reads.keeps (fun b o q=>old b o (hk' b o q)) r⟩
  refine list_sort_rev_vals (s:={ s with heap:=h'.push (seqObj "list" vs.toArray 0) }) (κ:=dataKind (sortingHeap (h'.push (seqObj "list" vs.toArray 0)) h'.objs.size vs) (bs.map enc)) hat (SortsAt.data (s:={ s with heap:=sortingHeap (h'.push (seqObj "list" vs.toArray 0)) h'.objs.size vs }) (each_map (R:=fun v d=>∃ as,Reads (sortingHeap (h'.push (seqObj "list" vs.toArray 0)) h'.objs.size vs) v d as) enc er') hal hk (bound_map hu)) hlen ?_
  refine ⟨_,rfl,wpAny_pure ⟨_,rfl,?_⟩⟩
  obtain ⟨n2,hn2⟩:=sortedHeap_at (out:=(sortVals (dataKind (sortingHeap (h'.push (seqObj "list" vs.toArray 0)) h'.objs.size vs) (bs.map enc)) b vs vs).toArray) hat
  refine h _ h' _ n2 hk' (fun b o q=>?_) hn2 (by rw [sortVals_length b rfl]; exact e.length) (sortVals_data b e er' hal)
  rw [sortedHeap_old (Nat.ne_of_lt (Heap.lt_size q)) (by rw [size_push']; exact Nat.lt_succ_of_lt (Heap.lt_size q))]
  exact Heap.get?_push_of_some _ q
end
def z9v (K:PySem.W.Frag) {β:Type} (enc:β->PyData) (b:Bool) (vs:List V) (H:Hp) (Q:VK):Prop:=∃ (a:Addr) (xs:List V) (bs:List β),vs=[V.ref a]/\SqT K H a xs/\Bears K H enc xs bs/\AllAlike (bs.map enc)/\Sortable (bs.map enc)/\bs.length<=10000000/\(∀ b ∈ bs,(enc b).depth<=100) /\
 ∀ (p:Addr) (ys:List V),H p=none->Bears K H enc ys (bs.mergeSort (dataLe b enc))->Q (.ref p) (upd H p (.lst ys))
section
variable {X:Cx}
theorem z9y {β:Type} {enc:β->PyData} {b:Bool} {kw:List (Str × Value)} (hu:X.A.units+110 < cLine) (hkw:∀ a,Builtin.«list.sort» ⟨[.ref a],kw⟩=Builtin.«list.sort» ⟨[.ref a],[(Str.ofString "reverse",.bool b)]⟩) (ha1:∀ t,argsOk "sorted" ⟨[.ref t],kw⟩) (ha2:∀ x,argsOk "list.sort" ⟨[.ref x],kw⟩)
  {pins:List (Addr × Obj)} {s:Shared} {σ:L2.St} {H:Hp} {vs:List V} {us:List Value} {Q:VK} (I:Inv X pins σ H s) (r:Vals vs us) (h:z9v X.K enc b vs H Q):wpAny (model X.prog X.w) X.A (call (.builtin "sorted") us kw) (EP X pins σ Q) X.xe s:=by
 obtain ⟨a,xs,bs,rfl,hs,hb,hal,hsr,hl,hd,q⟩:=h
 obtain ⟨its,rv,hli,_⟩:=I.tuple hs
 rw [Vals.ref1 r]
 obtain ⟨e1,e2⟩:=z28 I hb rv
 refine z6t (vs:=its) (bs:=bs) (enc:=enc) (R:=fun u b=>∃ v,RelV v u/\Dp X.K H v (enc b)) hkw (ha1 _) ha2 hli e1 e2 hal hsr (by rw [sizeLine_eq]; omega) (fun b m=>by have:=hd b m; omega) fun out h' h2 n k1 k2 hat ho h1=>?_
 obtain ⟨ys,g2,g3⟩:=z36 h1
 have I':Inv X pins σ H { s with heap:=h' }:=I.kept (t':=s.toks) k1
 have hlen:ys.length<=sizeLine:=by rw [g2.length,ho,sizeLine_eq]; omega
 exact ⟨.ref _,upd H h'.objs.size (.lst ys),I'.laid (t':=s.toks) (fun b o e=>k2 b o e) (Nat.le_refl _) ⟨hlen,out,n,g2,hat⟩,rfl,q _ ys (I'.hok.fresh (Nat.le_refl _)) g3⟩
theorem zb7 {β:Type} (enc:β->PyData) (hu:X.A.units+110 < cLine):CallR X (.builtin "sorted") (z9v X.K enc false):=by
 intro pins s σ H vs us Q I r h
 exact z9y (kw:=[]) hu plain_is_rev (fun _=>args_sorted1 _) (fun _=>args_list_sort _) I r h
end
section
variable {γ:Type} [DecidableEq γ]
def z0j (enc:γ->PyData) (p:γ × Int):PyData:=.tuple [enc p.1,.int p.2]
def z04 (acc:List (γ × Int)) (p:γ × Int):List (γ × Int):=match acc.getLast? with
 | some q=>if q.1=p.1 then acc.dropLast++[(p.1,q.2+p.2)] else acc++[p]
 | none=>[p]
def jn (bs:List (γ × Int)):List (γ × Int):=bs.foldl z04 []
theorem z0n (p:γ × Int):z04 [] p=[p]:=rfl
theorem z09 (acc:List (γ × Int)) (q p:γ × Int):z04 (acc++[q]) p=if q.1=p.1 then acc++[(p.1,q.2+p.2)] else acc++[q]++[p]:=by
 unfold z04
 rw [List.getLast?_append]
 simp
theorem z9t (acc:List (γ × Int)) (p:γ × Int):(z04 acc p).length<=acc.length+1:=by
 rcases List.eq_nil_or_concat acc with h | ⟨a,q,h⟩
 ·subst h; simp [z04]
 ·subst h
  rw [List.concat_eq_append,z09]
  split <;> simp
theorem zaf (bs:List (γ × Int)) (i:Nat) (p:γ × Int) (h:bs[i]?=some p):jn (bs.take (i+1))=z04 (jn (bs.take i)) p:=by
 unfold jn
 rw [List.take_add_one,h,List.foldl_append]
 rfl
theorem z55 (bs:List (γ × Int)):(jn bs).length<=bs.length:=by
 have key:∀ (bs acc:List (γ × Int)),(bs.foldl z04 acc).length<=acc.length+bs.length:=by
  intro bs
  induction bs with
  | nil=>intro acc; simp
  | cons p r ih =>
   intro acc
   have h1:=ih (z04 acc p)
   have h2:=z9t acc p
   show (r.foldl z04 (z04 acc p)).length<=_
   rw [List.length_cons]
   omega
 have:=key bs []
 simpa [jn] using this
theorem z1l (bs:List (γ × Int)):∀ p ∈ jn bs,∃ q ∈ bs,q.1=p.1:=by
 have key:∀ (bs acc:List (γ × Int)),∀ p ∈ bs.foldl z04 acc,(∃ q ∈ acc,q.1=p.1)\/∃ q ∈ bs,q.1=p.1:=by
  intro bs
  induction bs with
  | nil=>intro acc p hp; exact .inl ⟨p,hp,rfl⟩
  | cons x r ih =>
   intro acc p hp
   rcases ih (z04 acc x) p hp with ⟨q,hq,e⟩ | ⟨q,hq,e⟩
   ·rcases List.eq_nil_or_concat acc with h | ⟨a,z,h⟩
    ·subst h
     rw [z0n] at hq
     have:q=x:=by simpa using hq
     subst this
     exact .inr ⟨q,mcs ..,e⟩
    ·subst h
     rw [List.concat_eq_append] at hq ⊢
     rw [z09] at hq
     by_cases hz:z.1=x.1
     ·rw [if_pos hz] at hq
      rcases List.mem_append.mp hq with hq | hq
      ·exact .inl ⟨q,mal _ hq,e⟩
      ·have:q=(x.1,z.2+x.2):=by simpa using hq
       subst this
       exact .inr ⟨x,mcs ..,e⟩
     ·rw [if_neg hz] at hq
      rcases List.mem_append.mp hq with hq | hq
      ·exact .inl ⟨q,hq,e⟩
      ·have:q=x:=by simpa using hq
       subst this
       exact .inr ⟨q,mcs ..,e⟩
   ·exact .inr ⟨q,mcm _ hq,e⟩
 intro p hp
 rcases key bs [] p hp with ⟨q,hq,_⟩ | h
 ·cases hq
 ·exact h
theorem zej {bs:List (γ × Int)} (h:bs.Pairwise (fun a b=>a.1 ≠ b.1)):jn bs=bs:=by
 have key:∀ (bs acc:List (γ × Int)),(acc++bs).Pairwise (fun a b=>a.1 ≠ b.1)->bs.foldl z04 acc=acc++bs:=by
  intro bs
  induction bs with
  | nil=>intro acc _; simp
  | cons x r ih =>
   intro acc hp
   have e:z04 acc x=acc++[x]:=by
    rcases List.eq_nil_or_concat acc with h | ⟨a,z,h⟩
    ·subst h; rfl
    ·subst h
     rw [List.concat_eq_append] at hp ⊢
     rw [z09,if_neg]
     have h2:=(List.pairwise_append.mp hp).2.2 z (by simp) x (mcs ..)
     exact h2
   show r.foldl z04 (z04 acc x)=_
   rw [e,ih]
   ·simp
   ·simpa using hp
 have:=key bs [] (by simpa using h)
 simpa [jn] using this
end
def z7a (K:PySem.W.Frag) {γ:Type} [DecidableEq γ] (enc:γ->PyData):Sp:=fun vs H Q _=>∃ (a:Addr) (xs:List V) (bs:List (γ × Int)),vs=[.ref a]/\SqL K H a xs/\Bears K H (z0j enc) xs bs/\bs.length<=2000000/\(∀ b ∈ bs,SeqAt.shaped (enc b.1)=true) /\
 ∀ (c:Addr) (ys:List V) (H':Hp),SB [] H H'->SqT K H' c ys->Bears K H' (z0j enc) ys (jn bs)->Q (.ref c) H'
theorem z67 {K:PySem.W.Frag} {H:Hp} {γ:Type} {enc:γ->PyData} {v:V} {p:γ × Int} (h:Dp K H v (z0j enc p)):∃ a u,v=.ref a/\SqT K H a [u,.int p.2]/\Dp K H u (enc p.1):=by
 have h':Dp K H v (.tuple [enc p.1,.int p.2]):=h
 cases h' with
 | tup hs ha =>
  cases ha with
  | cons a1 a2 =>
   cases a2 with
   | cons b1 b2 =>
    cases b2
    cases b1
    exact ⟨_,_,rfl,hs,a1⟩
theorem z1j {γ:Type} {enc:γ->PyData} (hn:∀ g,z03 (enc g)=true) (p:γ × Int):z03 (z0j enc p)=true:=by simp [z0j,z03,z07,hn]
theorem z1g {K:PySem.W.Frag} {H:Hp} {γ:Type} {enc:γ->PyData} {a:Addr} {u:V} {g:γ} {m:Int} (h:SqT K H a [u,.int m]) (h2:Dp K H u (enc g)):Dp K H (.ref a) (z0j enc (g,m)):=Dp.tup h (.cons h2 (.cons (.int m) .nil))
theorem Bears.snoc {K:PySem.W.Frag} {H:Hp} {β:Type} {enc:β->PyData} {vs:List V} {bs:List β} {b:β} (h:Bears K H enc vs (bs++[b])):∃ us u,vs=us++[u]/\Bears K H enc us bs/\Dp K H u (enc b):=by
 induction bs generalizing vs with
 | nil =>
  cases h with
  | cons h1 h2=>cases h2; exact ⟨[],_,rfl,.nil,h1⟩
 | cons c r ih =>
  cases h with
  | cons h1 h2 =>
   obtain ⟨us,u,e,h3,h4⟩:=ih h2
   exact ⟨_::us,u,by rw [e]; rfl,.cons h1 h3,h4⟩
theorem z64 {xs:List V} {x:V}:atI (xs++[x]) (-1)=some x:=by
 unfold atI ixN
 rw [if_neg (by decide),if_pos (by rw [List.length_append,List.length_singleton]; omega)]
 simp only [List.length_append,List.length_singleton,Option.bind_some]
 have:((-1:Int)+((xs.length+1:Nat):Int)).toNat=xs.length:=by omega
 rw [this]
 simp
theorem z93 {xs:List V} {x:V}:ixN (xs++[x]).length (-1)=some xs.length:=by
 unfold ixN
 rw [if_neg (by decide),if_pos (by rw [List.length_append,List.length_singleton]; omega),List.length_append,List.length_singleton]
 congr 1; omega
theorem z9f {xs:List V} {x y:V}:(xs++[x]).set xs.length y=xs++[y]:=by simp
namespace Lad
theorem anti {a b:Lad × Int} (h1:dataLt (pEnc a) (pEnc b)=false) (h2:dataLt (pEnc b) (pEnc a)=false):a=b:=by
 rw [pLt] at h1 h2
 by_cases h:a.1=b.1
 ·rw [if_pos h] at h1
  rw [if_pos h.symm] at h2
  have e1:=of_decide_eq_false h1
  have e2:=of_decide_eq_false h2
  exact Prod.ext h (by omega)
 ·rw [if_neg h] at h1
  rw [if_neg (fun z:b.1=a.1=>h z.symm),lt_tri _ _ h h1] at h2
  cases h2
abbrev dsc (bs:List (Lad × Int)):List (Lad × Int):=bs.mergeSort (dataLe true pEnc)
theorem dsc_perm (bs:List (Lad × Int)):(dsc bs).Perm bs:=List.mergeSort_perm _ _
theorem dsc_le (bs:List (Lad × Int)):(dsc bs).Pairwise (fun a b=>dataLt (pEnc a) (pEnc b)=false):=by
 have h:=sort_pairwise (le:=dataLe true pEnc) (sortLe_total _ _ _) bs
 refine h.imp fun {a b} hab=>?_
 have h2:(!dataLt (pEnc a) (pEnc b))=true:=hab
 simpa using h2
theorem falls_one:∀ {as bs:List (Lad × Int)},as.Perm bs->as.Pairwise (fun a b=>dataLt (pEnc a) (pEnc b)=false)->bs.Pairwise (fun a b=>dataLt (pEnc a) (pEnc b)=false)->as=bs
 | [],bs,h,_,_=>(List.nil_perm.mp h).symm
 | a::as,[],h,_,_=>by have:=h.length_eq; simp at this
 | a::as,b::bs,h,h1,h2=>by
  have hab:a=b:=by
   have ha:a ∈ b::bs:=h.mem_iff.mp (mcs ..)
   have hb:b ∈ a::as:=h.mem_iff.mpr (mcs ..)
   rcases List.mem_cons.mp ha with ha | ha
   ·exact ha
   ·rcases List.mem_cons.mp hb with hb | hb
    ·exact hb.symm
    ·exact anti ((List.pairwise_cons.mp h1).1 b hb) ((List.pairwise_cons.mp h2).1 a ha)
  subst hab
  rw [falls_one (List.Perm.cons_inv h) (List.pairwise_cons.mp h1).2 (List.pairwise_cons.mp h2).2]
theorem dsc_of {cs bs:List (Lad × Int)} (hp:cs.Perm bs) (hs:cs.Pairwise (fun a b=>dataLt (pEnc a) (pEnc b)=false)):cs=dsc bs:=falls_one (hp.trans (dsc_perm bs).symm) hs (dsc_le bs)
theorem dsc_swap (as bs:List (Lad × Int)):dsc (as++bs)=dsc (bs++as):=dsc_of ((dsc_perm _).trans List.perm_append_comm) (dsc_le _)
def bth (l k:Lad):Lad:=ofPs (jn (dsc (l.ps++k.ps)))
theorem bth_comm (l k:Lad):bth l k=bth k l:=by unfold bth; rw [dsc_swap]
theorem ok_falls {B:Int} {l:Lad} (h:l.Ok B):l.ps.Pairwise (fun a b=>dataLt (pEnc a) (pEnc b)=false)/\l.ps.Pairwise (fun a b=>a.1 ≠ b.1):=by
 have h2:=(ok_iff.mp h).2
 constructor
 ·refine h2.imp fun {a b} hab=>?_
  rw [pLt,if_neg (fun z:a.1=b.1=>lt_ne hab z.symm)]
  exact lt_asymm hab
 ·exact h2.imp fun {a b} hab (z:a.1=b.1)=>lt_ne hab z.symm
theorem bth_nil {B:Int} {l:Lad} (h:l.Ok B):bth l .nil=l:=by
 unfold bth
 rw [show l.ps++(Lad.nil).ps=l.ps by simp [ps],<- dsc_of (List.Perm.refl _) (ok_falls h).1,zej (ok_falls h).2,ofPs_ps]
theorem tot_jstep (acc:List (Lad × Int)) (p:Lad × Int):tot (z04 acc p)<=tot acc+(1+p.1.parts):=by
 rcases List.eq_nil_or_concat acc with h | ⟨a,z,h⟩
 ·subst h; simp [z0n,tot]
 ·subst h
  rw [List.concat_eq_append,z09]
  by_cases hz:z.1=p.1
  ·rw [if_pos hz,tot_append,tot_append]; simp only [tot]; rw [hz]; omega
  ·rw [if_neg hz,tot_append,tot_append]; simp only [tot]; omega
theorem tot_jn (bs:List (Lad × Int)):tot (jn bs)<=tot bs:=by
 have key:∀ (bs acc:List (Lad × Int)),tot (bs.foldl z04 acc)<=tot acc+tot bs:=by
  intro bs
  induction bs with
  | nil=>intro acc; simp [tot]
  | cons x r ih =>
   intro acc
   have h1:=ih (z04 acc x)
   have h2:=tot_jstep acc x
   show tot (r.foldl z04 (z04 acc x))<=tot acc+(1+x.1.parts+tot r)
   omega
 have:=key bs []
 simpa [jn,tot] using this
theorem bth_parts (l k:Lad):(bth l k).parts<=l.parts+k.parts:=by
 unfold bth
 rw [parts_ofPs]
 have h1:=tot_jn (dsc (l.ps++k.ps))
 rw [tot_perm (dsc_perm _),tot_append] at h1
 have h2:l.parts=tot l.ps:=by rw [<- parts_ofPs,ofPs_ps]
 have h3:k.parts=tot k.ps:=by rw [<- parts_ofPs,ofPs_ps]
 omega
theorem bth_deep {n:Nat} {l k:Lad} (hl:l.deep<=n) (hk:k.deep<=n):(bth l k).deep<=n:=by
 unfold bth
 refine deep_ofPs fun b hb=>?_
 obtain ⟨q,hq,e⟩:=z1l _ b hb
 rw [<- e]
 rcases List.mem_append.mp ((dsc_perm _).mem_iff.mp hq) with h | h
 ·exact deep_parts_mem hl q h
 ·exact deep_parts_mem hk q h
def tms (l:Lad) (m:Int):Lad:=if m=0 then .nil else ofPs (l.ps.map fun p=>(p.1,p.2*m))
theorem tot_map (f:Int->Int):∀ bs:List (Lad × Int),tot (bs.map fun p=>(p.1,f p.2))=tot bs
 | []=>rfl
 | p::r=>by show 1+p.1.parts+tot _=1+p.1.parts+tot r; rw [tot_map f r]
theorem tms_parts (l:Lad) (m:Int):(tms l m).parts<=l.parts:=by
 unfold tms
 split
 ·exact Nat.zero_le _
 ·rw [parts_ofPs,tot_map (fun x=>x*m),<- parts_ofPs,ofPs_ps]; exact Nat.le_refl _
theorem tms_deep {n:Nat} {l:Lad} (m:Int) (h:l.deep<=n):(tms l m).deep<=n:=by
 unfold tms
 split
 ·exact Nat.zero_le _
 ·refine deep_ofPs fun b hb=>?_
  obtain ⟨p,hp,rfl⟩:=List.mem_map.mp hb
  exact deep_parts_mem h p hp
end Lad
def z9q (K:PySem.W.Frag):Sp:=fun vs H Q _=>∃ (v u:V) (l k:Lad),vs=[v,u]/\LA K H v l/\LA K H u k/\l.deep<=30/\k.deep<=30/\l.parts<=800000/\k.parts<=800000/\∀ (x:V) (H':Hp),SB [] H H'->LA K H' x (l.bth k)->Q x H'
namespace Lad
theorem sumAt_nil (x:Lad):sumAt [] x=0:=rfl
theorem sumAt_cons (e:Lad) (m:Int) (r:List (Lad × Int)) (x:Lad):sumAt ((e,m)::r) x=(if e=x then m else 0)+sumAt r x:=by
 unfold sumAt
 rw [List.filter_cons]
 by_cases h:e=x
 ·simp [h]
 ·simp [h]
theorem sumAt_append (as bs:List (Lad × Int)) (x:Lad):sumAt (as++bs) x=sumAt as x+sumAt bs x:=by
 unfold sumAt
 rw [List.filter_append,List.map_append,List.sum_append]
theorem sumAt_zero {bs:List (Lad × Int)} {x:Lad} (h:∀ p ∈ bs,p.1 ≠ x):sumAt bs x=0:=by
 unfold sumAt
 have:bs.filter (fun p=>decide (p.1=x))=[]:=by
  rw [List.filter_eq_nil_iff]
  intro p hp
  simpa using h p hp
 rw [this]; rfl
theorem sumAt_perm {as bs:List (Lad × Int)} (h:as.Perm bs) (x:Lad):sumAt as x=sumAt bs x:=by
 induction h with
 | nil=>rfl
 | cons p _ ih=>obtain ⟨e,m⟩:=p; rw [sumAt_cons,sumAt_cons,ih]
 | swap p q l=>obtain ⟨e,m⟩:=p; obtain ⟨e',m'⟩:=q; rw [sumAt_cons,sumAt_cons,sumAt_cons,sumAt_cons]; omega
 | trans _ _ h1 h2=>omega
theorem sumAt_jstep (acc:List (Lad × Int)) (p:Lad × Int) (x:Lad):sumAt (z04 acc p) x=sumAt acc x+(if p.1=x then p.2 else 0):=by
 obtain ⟨e,m⟩:=p
 rcases List.eq_nil_or_concat acc with h | ⟨a,z,h⟩
 ·subst h; rw [z0n,sumAt_cons,sumAt_nil]; show (if e=x then m else 0)+0=0+(if e=x then m else 0); omega
 ·subst h
  obtain ⟨e',m'⟩:=z
  rw [List.concat_eq_append,z09]
  by_cases hz:e'=e
  ·rw [if_pos hz,sumAt_append,sumAt_append,sumAt_cons,sumAt_cons,sumAt_nil]
   subst hz
   by_cases hx:e'=x
   ·simp only [if_pos hx]; omega
   ·simp only [if_neg hx]; omega
  ·rw [if_neg hz,sumAt_append,sumAt_append,sumAt_cons,sumAt_cons,sumAt_nil]; show _=_+(if e=x then m else 0); omega
theorem sumAt_jn (bs:List (Lad × Int)) (x:Lad):sumAt (jn bs) x=sumAt bs x:=by
 have key:∀ (bs acc:List (Lad × Int)),sumAt (bs.foldl z04 acc) x=sumAt acc x+sumAt bs x:=by
  intro bs
  induction bs with
  | nil=>intro acc; show sumAt acc x=_; rw [sumAt_nil]; omega
  | cons p r ih =>
   intro acc
   obtain ⟨e,m⟩:=p
   show sumAt (r.foldl z04 (z04 acc (e,m))) x=_
   rw [ih,sumAt_jstep,sumAt_cons]
   show _+(if e=x then m else 0)+_=_
   omega
 have:=key bs []
 rw [sumAt_nil] at this
 unfold jn
 omega
theorem sumAt_map (f:Int->Int) (hf:f 0=0) (hadd:∀ a b,f (a+b)=f a+f b):∀ (bs:List (Lad × Int)) (x:Lad),sumAt (bs.map fun p=>(p.1,f p.2)) x=f (sumAt bs x)
 | [],x=>by show sumAt [] x=_; rw [sumAt_nil,hf]
 | (e,m)::r,x=>by
  show sumAt ((e,f m)::r.map _) x=_
  rw [sumAt_cons,sumAt_cons,sumAt_map f hf hadd r x,hadd]
  by_cases h:e=x
  ·rw [if_pos h,if_pos h]
  ·rw [if_neg h,if_neg h,hf]
abbrev S (l:Lad) (x:Lad):Int:=sumAt l.ps x
section
variable {B C:Int}
theorem S_top {e:Lad} {m:Int} {r:Lad} (h:(Lad.cons e m r).Ok B):S (.cons e m r) e=m:=by
 show sumAt ((e,m)::r.ps) e=m
 rw [sumAt_cons,if_pos rfl,sumAt_zero fun p hp=>lt_ne (h.2.2.2.2 p hp)]
 omega
theorem S_above {e:Lad} {m:Int} {r x:Lad} (h:(Lad.cons e m r).Ok B) (hx:e.lt x=true):S (.cons e m r) x=0:=by
 show sumAt ((e,m)::r.ps) x=0
 rw [sumAt_cons,if_neg (lt_ne hx),sumAt_zero fun p hp=>lt_ne (lt_trans _ _ _ (h.2.2.2.2 p hp) hx)]
 rfl
theorem S_mem {l:Lad} (h:l.Ok B) {p:Lad × Int} (hp:p ∈ l.ps):S l p.1=p.2:=by
 induction l with
 | nil=>cases hp
 | cons e m r _ ih =>
  rcases List.mem_cons.mp hp with hp | hp
  ·subst hp; exact S_top h
  ·show sumAt ((e,m)::r.ps) p.1=p.2
   rw [sumAt_cons,if_neg (fun z=>lt_ne (h.2.2.2.2 p hp) z.symm)]
   have:=ih h.2.2.2.1 hp
   show 0+S r p.1=_
   omega
theorem S_none {l x:Lad} (h:∀ p ∈ l.ps,p.1 ≠ x):S l x=0:=sumAt_zero h
theorem S_cases {l:Lad} (h:l.Ok B) (x:Lad):(S l x=0/\∀ p ∈ l.ps,p.1 ≠ x)\/(∃ m,(x,m) ∈ l.ps/\S l x=m/\1<=m/\m < B):=by
 by_cases hx:∃ p ∈ l.ps,p.1=x
 ·obtain ⟨p,hp,rfl⟩:=hx
  have:=(ok_iff.mp h).1 p hp
  exact .inr ⟨p.2,hp,S_mem h hp,this.2⟩
 ·have hx':∀ p ∈ l.ps,p.1 ≠ x:=fun p hp z=>hx ⟨p,hp,z⟩
  exact .inl ⟨S_none hx',hx'⟩
theorem S_nonneg {l:Lad} (h:l.Ok B) (x:Lad):0<=S l x:=by
 rcases S_cases h x with h1 | ⟨m,_,h1,h2,_⟩ <;> omega
def LT' (l k:Lad):Prop:=∃ x,S l x < S k x/\∀ y,x.lt y=true->S l y=S k y
theorem lt_of {l k:Lad}:∀ (_:l.Ok B) (_:k.Ok C),l.lt k=true->LT' l k:=by
 induction l generalizing k with
 | nil =>
  intro hl hk h
  cases k with
  | nil=>rw [lt_nil_nil] at h; cases h
  | cons e m r =>
   refine ⟨e,?_,fun y hy=>?_⟩
   ·rw [S_top hk]; show sumAt [] e < m; rw [sumAt_nil]; have:=hk.2.1; omega
   ·rw [S_above hk hy]; rfl
 | cons e m r _ ih =>
  intro hl hk h
  cases k with
  | nil=>rw [lt_cons_nil] at h; cases h
  | cons e' m' r' =>
   rw [lt_cons] at h
   by_cases he:e=e'
   ·subst he
    rw [if_pos rfl] at h
    by_cases hm:m=m'
    ·subst hm
     rw [if_pos rfl] at h
     obtain ⟨x,h1,h2⟩:=ih hl.2.2.2.1 hk.2.2.2.1 h
     refine ⟨x,?_,fun y hy=>?_⟩
     ·show sumAt ((e,m)::r.ps) x < sumAt ((e,m)::r'.ps) x
      rw [sumAt_cons,sumAt_cons]
      have:sumAt r.ps x < sumAt r'.ps x:=h1
      omega
     ·show sumAt ((e,m)::r.ps) y=sumAt ((e,m)::r'.ps) y
      rw [sumAt_cons,sumAt_cons]
      have:sumAt r.ps y=sumAt r'.ps y:=h2 y hy
      omega
    ·rw [if_neg hm] at h
     exact ⟨e,by rw [S_top hl,S_top hk]; exact of_decide_eq_true h,fun y hy=>by rw [S_above hl hy,S_above hk hy]⟩
   ·rw [if_neg he] at h
    refine ⟨e',?_,fun y hy=>?_⟩
    ·rw [S_above hl h,S_top hk]; have:=hk.2.1; omega
    ·rw [S_above hl (lt_trans _ _ _ h hy),S_above hk hy]
theorem LT'.asymm {l k:Lad} (h:LT' l k) (h2:LT' k l):False:=by
 obtain ⟨x,a1,a2⟩:=h
 obtain ⟨y,b1,b2⟩:=h2
 by_cases e:x=y
 ·subst e; omega
 ·cases hxy:x.lt y with
  | true=>have:=a2 y hxy; omega
  | false=>have:=b2 x (lt_tri x y e hxy); omega
theorem lt_iff {l k:Lad} (hl:l.Ok B) (hk:k.Ok C):l.lt k=true ↔ LT' l k:=by
 constructor
 ·exact lt_of hl hk
 ·intro h
  cases e:l.lt k with
  | true=>rfl
  | false =>
   by_cases hlk:l=k
   ·subst hlk; obtain ⟨x,h1,_⟩:=h; omega
   ·exact (LT'.asymm h (lt_of hk hl (lt_tri l k hlk e))).elim
theorem le_iff {l k:Lad} (hl:l.Ok B) (hk:k.Ok C) (h:¬ LT' l k):l.lt k=false:=by
 cases e:l.lt k with
 | false=>rfl
 | true=>exact (h (lt_of hl hk e)).elim
theorem ext {l k:Lad} (hl:l.Ok B) (hk:k.Ok C) (h:∀ x,S l x=S k x):l=k:=by
 by_cases e:l=k
 ·exact e
 ·cases hlk:l.lt k with
  | true=>obtain ⟨x,h1,_⟩:=lt_of hl hk hlk; have:=h x; omega
  | false=>obtain ⟨x,h1,_⟩:=lt_of hk hl (lt_tri l k e hlk); have:=h x; omega
theorem jn_desc {bs:List (Lad × Int)} (h:bs.Pairwise (fun a b=>a.1.lt b.1=false)):(jn bs).Pairwise (fun p q=>q.1.lt p.1=true):=by
 have key:∀ (bs acc:List (Lad × Int)),acc.Pairwise (fun p q=>q.1.lt p.1=true)->(∀ a ∈ acc,∀ b ∈ bs,a.1.lt b.1=false)->bs.Pairwise (fun a b=>a.1.lt b.1=false)->(bs.foldl z04 acc).Pairwise (fun p q=>q.1.lt p.1=true):=by
  intro bs
  induction bs with
  | nil=>intro acc h _ _; exact h
  | cons p r ih =>
   intro acc h1 h2 h3
   obtain ⟨h31,h32⟩:=List.pairwise_cons.mp h3
   refine ih (z04 acc p) ?_ ?_ h32
   ·rcases List.eq_nil_or_concat acc with h | ⟨a,z,h⟩
    ·subst h; rw [z0n]; exact List.pairwise_singleton _ _
    ·subst h
     rw [List.concat_eq_append] at h1 h2 ⊢
     rw [z09]
     obtain ⟨a1,_,a3⟩:=List.pairwise_append.mp h1
     by_cases hz:z.1=p.1
     ·rw [if_pos hz,List.pairwise_append]
      refine ⟨a1,List.pairwise_singleton _ _,fun x hx y hy=>?_⟩
      have hy':y=(p.1,z.2+p.2):=by simpa using hy
      subst hy'
      show p.1.lt x.1=true
      rw [<- hz]; exact a3 x hx z (by simp)
     ·rw [if_neg hz,List.pairwise_append]
      refine ⟨h1,List.pairwise_singleton _ _,fun x hx y hy=>?_⟩
      have hy':y=p:=by simpa using hy
      subst hy'
      have hzp:y.1.lt z.1=true:=lt_tri _ _ hz (h2 z (by simp) y (mcs ..))
      rcases List.mem_append.mp hx with hx | hx
      ·exact lt_trans _ _ _ hzp (a3 x hx z (by simp))
      ·have hx':x=z:=by simpa using hx
       subst hx'; exact hzp
   ·intro a ha b hb
    have hpb:=h31 b hb
    rcases List.eq_nil_or_concat acc with h | ⟨c,z,h⟩
    ·subst h
     rw [z0n] at ha
     have:a=p:=by simpa using ha
     subst this; exact hpb
    ·subst h
     rw [List.concat_eq_append] at ha h2
     rw [z09] at ha
     by_cases hz:z.1=p.1
     ·rw [if_pos hz] at ha
      rcases List.mem_append.mp ha with ha | ha
      ·exact h2 a (mal _ ha) b (mcm _ hb)
      ·have:a=(p.1,z.2+p.2):=by simpa using ha
       subst this; exact hpb
     ·rw [if_neg hz] at ha
      rcases List.mem_append.mp ha with ha | ha
      ·exact h2 a ha b (mcm _ hb)
      ·have:a=p:=by simpa using ha
       subst this; exact hpb
 exact key bs [] List.Pairwise.nil (by simp) h
theorem dsc_keys (bs:List (Lad × Int)):(dsc bs).Pairwise (fun a b=>a.1.lt b.1=false):=by
 refine (dsc_le bs).imp fun {a b} hab=>?_
 rw [pLt] at hab
 by_cases h:a.1=b.1
 ·rw [h]; exact lt_irrefl _
 ·rw [if_neg h] at hab; exact hab
theorem S_bth (l k x:Lad):S (bth l k) x=S l x+S k x:=by
 show sumAt (ofPs (jn (dsc (l.ps++k.ps)))).ps x=_
 rw [ps_ofPs,sumAt_jn,sumAt_perm (dsc_perm _),sumAt_append]
theorem ok_pos {l:Lad} (h:l.Ok B) (hB:0<=B) (x:Lad):S l x<=B:=by
 rcases S_cases h x with h1 | ⟨m,_,h1,h2,h3⟩ <;> omega
theorem bth_ok {l k:Lad} (hl:l.Ok B) (hk:k.Ok C) (hB:1<=B) (hC:1<=C):(bth l k).Ok (B+C):=by
 have hd:(jn (dsc (l.ps++k.ps))).Pairwise (fun p q=>q.1.lt p.1=true):=jn_desc (dsc_keys _)
 show (ofPs (jn (dsc (l.ps++k.ps)))).Ok (B+C)
 rw [ok_ps]
 refine ⟨fun p hp=>?_,hd⟩
 have hs:sumAt (jn (dsc (l.ps++k.ps))) p.1=p.2:=by
  have hnd:∀ (bs:List (Lad × Int)),bs.Pairwise (fun p q=>q.1.lt p.1=true)->∀ p ∈ bs,sumAt bs p.1=p.2:=by
   intro bs
   induction bs with
   | nil=>intro _ p hp; cases hp
   | cons q r ih =>
    intro hpw p hp
    obtain ⟨e,m⟩:=q
    obtain ⟨h1,h2⟩:=List.pairwise_cons.mp hpw
    rw [sumAt_cons]
    rcases List.mem_cons.mp hp with hp | hp
    ·subst hp
     rw [if_pos rfl,sumAt_zero fun q hq=>lt_ne (h1 q hq)]
     omega
    ·rw [if_neg (fun z=>lt_ne (h1 p hp) z.symm),ih h2 p hp]
     omega
  exact hnd _ hd p hp
 have hs2:p.2=S l p.1+S k p.1:=by
  rw [<- hs,sumAt_jn,sumAt_perm (dsc_perm _),sumAt_append]
 obtain ⟨q,hq,eq⟩:=z1l _ p hp
 have hq':=(dsc_perm _).mem_iff.mp hq
 have n1:=S_nonneg hl p.1
 have n2:=S_nonneg hk p.1
 have hlt:S l p.1 < B:=by rcases S_cases hl p.1 with h1 | ⟨m,_,h1,h2,h3⟩ <;> omega
 have hkt:S k p.1 < C:=by rcases S_cases hk p.1 with h1 | ⟨m,_,h1,h2,h3⟩ <;> omega
 have grow:∀ (e:Lad),e.Ok B->e.Ok (B+C):=fun e h=>h.mono (by omega)
 have grow2:∀ (e:Lad),e.Ok C->e.Ok (B+C):=fun e h=>h.mono (by omega)
 rcases List.mem_append.mp hq' with hq2 | hq2
 ·have o:=(ok_iff.mp hl).1 q hq2
  have sm:=S_mem hl hq2
  rw [eq] at sm o
  exact ⟨grow _ o.1,by omega,by omega⟩
 ·have o:=(ok_iff.mp hk).1 q hq2
  have sm:=S_mem hk hq2
  rw [eq] at sm o
  exact ⟨grow2 _ o.1,by omega,by omega⟩
def cov (k x:Lad):Bool:=k.ps.all fun p=>!x.lt p.1
theorem cov_iff {k:Lad} (hk:k.Ok B) (x:Lad):cov k x=true ↔ ∀ y,x.lt y=true->S k y=0:=by
 unfold cov
 rw [List.all_eq_true]
 constructor
 ·intro h y hy
  refine S_none fun p hp z=>?_
  have:=h p hp
  rw [z,hy] at this
  cases this
 ·intro h p hp
  cases e:x.lt p.1 with
  | false=>rfl
  | true =>
   have h1:=h p.1 e
   rw [S_mem hk hp] at h1
   have:=(ok_iff.mp hk).1 p hp
   omega
theorem S_bhd {l k:Lad} (hk:k.Ok B) (x:Lad):S (bhd l k) x=(if cov k x=true then S l x else 0)+S k x:=by
 cases k with
 | nil =>
  rw [bhd_nil]
  show S l x=(if cov .nil x=true then S l x else 0)+sumAt [] x
  rw [sumAt_nil,if_pos (show cov .nil x=true from rfl)]; omega
 | cons e m r =>
  have hcov:cov (.cons e m r) x=!x.lt e:=by
   unfold cov
   show (!x.lt e&&r.ps.all fun p=>!x.lt p.1)=_
   cases h:x.lt e with
   | true=>rfl
   | false =>
    have:r.ps.all (fun p=>!x.lt p.1)=true:=by
     rw [List.all_eq_true]
     intro p hp
     rw [le_trans (le_of_lt (hk.2.2.2.2 p hp)) h]; rfl
    rw [this]; rfl
  rw [bhd_cons]
  show sumAt (ofPs _).ps x=_
  rw [ps_ofPs,sumAt_append,sumAt_cons,hcov]
  show sumAt (l.ps.filter fun p=>e.lt p.1) x+((if e=x then sumAt l.ps e+m else 0)+sumAt r.ps x)=(if (!x.lt e)=true then sumAt l.ps x else 0)+sumAt ((e,m)::r.ps) x
  rw [sumAt_cons]
  have hf:sumAt (l.ps.filter fun p=>e.lt p.1) x=if e.lt x=true then sumAt l.ps x else 0:=by
   unfold sumAt
   rw [List.filter_filter]
   by_cases h:e.lt x=true
   ·rw [if_pos h]
    congr 2
    refine List.filter_congr fun p hp=>?_
    by_cases hp2:p.1=x
    ·simp [hp2,h]
    ·simp [hp2]
   ·rw [if_neg h]
    have:l.ps.filter (fun p=>decide (p.1=x)&&e.lt p.1)=[]:=by
     rw [List.filter_eq_nil_iff]
     intro p hp hc
     rw [Bool.and_eq_true] at hc
     have h1:p.1=x:=of_decide_eq_true hc.1
     rw [h1] at hc
     exact h hc.2
    rw [this]; rfl
  rw [hf]
  by_cases hx:e=x
  ·subst hx
   rw [lt_irrefl]
   simp
   omega
  ·cases h1:e.lt x with
   | true =>
    rw [lt_asymm h1]
    simp [hx]
   | false =>
    rw [lt_tri e x hx h1]
    simp [hx]
theorem bhd_ok {l k:Lad} (hl:l.Ok B) (hk:k.Ok C) (hB:1<=B) (hC:1<=C):(bhd l k).Ok (B+C):=by
 cases k with
 | nil=>rw [bhd_nil]; exact hl.mono (by omega)
 | cons e m r =>
  rw [bhd_cons,ok_ps]
  obtain ⟨h1,h2,h3,h4,h5⟩:=hk
  obtain ⟨a1,a2⟩:=ok_iff.mp hl
  obtain ⟨b1,b2⟩:=ok_iff.mp h4
  have n1:=S_nonneg hl e
  have hlt:S l e < B:=by rcases S_cases hl e with g1 | ⟨m,_,g1,g2,g3⟩ <;> omega
  constructor
  ·intro p hp
   rcases List.mem_append.mp hp with hp | hp
   ·have:=a1 p (List.mem_filter.mp hp).1
    exact ⟨this.1.mono (by omega),this.2.1,by omega⟩
   ·rcases List.mem_cons.mp hp with hp | hp
    ·subst hp
     exact ⟨h1.mono (by omega),by show 1<=S l e+m; omega,by show S l e+m < B+C; omega⟩
    ·have:=b1 p hp
     exact ⟨this.1.mono (by omega),this.2.1,by omega⟩
  ·rw [List.pairwise_append,List.pairwise_cons]
   refine ⟨a2.sublist List.filter_sublist,⟨h5,b2⟩,fun a ha b hb=>?_⟩
   have ha':=(List.mem_filter.mp ha).2
   rcases List.mem_cons.mp hb with hb | hb
   ·subst hb; exact ha'
   ·exact lt_trans _ _ _ (h5 b hb) ha'
theorem bth_ge_bhd {a b:Lad} (ha:a.Ok B) (hb:b.Ok C) (hB:1<=B) (hC:1<=C):(bth a b).lt (bhd a b)=false:=by
 refine le_iff (bth_ok ha hb hB hC) (bhd_ok ha hb hB hC) ?_
 rintro ⟨x,h1,_⟩
 rw [S_bth,S_bhd hb] at h1
 have:=S_nonneg ha x
 split at h1 <;> omega
theorem cov_same {b c:Lad} (hb:b.Ok B) (hc:c.Ok C) {x:Lad} (h:∀ y,x.lt y=true->S b y=S c y):cov b x=cov c x:=by
 rw [Bool.eq_iff_iff,cov_iff hb,cov_iff hc]
 exact ⟨fun g y hy=>by rw [<- h y hy]; exact g y hy,fun g y hy=>by rw [h y hy]; exact g y hy⟩
theorem bhd_mono {a b c:Lad} {D:Int} (ha:a.Ok B) (hb:b.Ok C) (hc:c.Ok D) (hB:1<=B) (hC:1<=C) (hD:1<=D) (h:b.lt c=true):(bhd a b).lt (bhd a c)=true:=by
 rw [lt_iff (bhd_ok ha hb hB hC) (bhd_ok ha hc hB hD)]
 obtain ⟨x,h1,h2⟩:=lt_of hb hc h
 refine ⟨x,?_,fun y hy=>?_⟩
 ·rw [S_bhd hb,S_bhd hc,cov_same hb hc h2]; omega
 ·rw [S_bhd hb,S_bhd hc,cov_same hb hc (x:=y) (fun z hz=>h2 z (lt_trans _ _ _ hy hz)),h2 y hy]
theorem bth_mono {a b c:Lad} {D:Int} (ha:a.Ok B) (hb:b.Ok C) (hc:c.Ok D) (hB:1<=B) (hC:1<=C) (hD:1<=D) (h:b.lt c=true):(bth a b).lt (bth a c)=true:=by
 rw [lt_iff (bth_ok ha hb hB hC) (bth_ok ha hc hB hD)]
 obtain ⟨x,h1,h2⟩:=lt_of hb hc h
 exact ⟨x,by rw [S_bth,S_bth]; omega,fun y hy=>by rw [S_bth,S_bth,h2 y hy]⟩
theorem S_tms (l:Lad) (m:Int) (x:Lad):S (tms l m) x=S l x*m:=by
 unfold tms
 by_cases h:m=0
 ·rw [if_pos h,h]; show sumAt [] x=_; rw [sumAt_nil,Int.mul_zero]
 ·rw [if_neg h]
  show sumAt (ofPs _).ps x=_
  rw [ps_ofPs]
  exact sumAt_map (fun a=>a*m) (Int.zero_mul m) (fun a b=>Int.add_mul a b m) l.ps x
theorem tms_ok {l:Lad} {m:Int} (hl:l.Ok B) (hm:0<=m):(tms l m).Ok (B*m+B):=by
 unfold tms
 by_cases h:m=0
 ·rw [if_pos h]; trivial
 ·rw [if_neg h,ok_ps]
  obtain ⟨a1,a2⟩:=ok_iff.mp hl
  constructor
  ·intro p hp
   obtain ⟨q,hq,rfl⟩:=List.mem_map.mp hp
   obtain ⟨g1,g2,g3⟩:=a1 q hq
   have hB:0<=B:=by omega
   have b1:q.2*m<=B*m:=Int.mul_le_mul_of_nonneg_right (by omega) hm
   have b2:1*1<=q.2*m:=Int.mul_le_mul g2 (by omega) (by omega) (by omega)
   have b3:0<=B*m:=Int.mul_nonneg hB hm
   exact ⟨g1.mono (by omega),by show 1<=q.2*m; omega,by show q.2*m < B*m+B; omega⟩
  ·rw [List.pairwise_map]
   exact a2
end
end Lad
namespace Lad
section
variable {B C:Int}
theorem nil_le (k:Lad):k ≠ .nil->Lad.lt .nil k=true:=by
 cases k with
 | nil=>intro h; exact absurd rfl h
 | cons e m r=>intro _; exact lt_nil_cons e m r
theorem bhd_ge {l k:Lad} (hl:l.Ok B) (hk:k.Ok C) (hB:1<=B) (hC:1<=C):(bhd l k).lt l=false:=by
 by_cases h:k=.nil
 ·subst h; rw [bhd_nil]; exact lt_irrefl _
 ·have:=bhd_mono (a:=l) (b:=.nil) (c:=k) (C:=1) hl trivial hk hB (by decide) hC (nil_le k h)
  rw [bhd_nil] at this
  exact lt_asymm this
end
end Lad
structure Own (K:PySem.W.Frag) (mg:Str->Option Value) (x:Str) (C:Addr):Prop where
 gC:mg x=some (.ref C)
 q:PySem.W.excIn K C He.veBase "ValueError.__new__"=true
 k:PySem.W.keepIn K (.ref C)=true
 s:PySem.W.subIn K (.ref C) (.type "BaseException")=some true
 t:PySem.W.typeIn K (.ref C)=some (.type "type")
structure GotX (P:Program) (w:World) (K:PySem.W.Frag) (mg:Str->Option Value) (base:Heap) (x:Str) (ps:List Str) (k:Nat) (sp:Sp):Prop where
 ex:∃ (f:Addr) (fd:FuncData),FnOk P w K mg base (L2.CX P w) k f fd ps sp/\PySem.W.keepIn K (.ref f)=true/\Binds K fd ps []/\mg x=some (.ref f)
section
variable {X:Cx} {x:Str} {ps:List Str} {k:Nat} {sp:Sp} {e:Expr} {es:List Expr} {t:TA} {p pos:Pos}
theorem z1u (G:GotX X.prog X.w X.K X.mg X.base x ps k sp) (hr:Room k X.A) (hg:Gl X x) (ha:PA X (e::es) t) (hdb:(x == ("__debug__":Str))=false:=by decide) (he:starEach (e::es) X.env=(false,eval e X.env)::starEach es X.env:=by rfl) (hpl:(backTo pos (starEach es X.env)).any (·.1)=false:=by rfl) :
  PE X (.Call (.Name x p) (e::es) [] pos) (tCall sp [] E0 t):=by
 obtain ⟨f,fd,h1,h2,h3,h4⟩:=G.ex
 exact pe_call h1 hr hg h4 h2 h3 .nil passL ha hdb he hpl
theorem z0p {W:WX} (G:GotX X.prog X.w X.K X.mg X.base x ps k sp) (hr:Room k X.A) (hg:Gl X x) (tk:Takes X W) (ha:PA X (e::es) t) (hdb:(x == ("__debug__":Str))=false:=by decide) (he:starEach (e::es) X.env=(false,eval e X.env)::starEach es X.env:=by rfl) (hpl:(backTo pos (starEach es X.env)).any (·.1)=false:=by rfl) :
  PE X (.Call (.Name x p) (e::es) [] pos) (tCallS sp (WE W) t):=by
 obtain ⟨f,fd,h1,h2,h3,h4⟩:=G.ex
 exact pe_callS h1 hr hg h4 h2 h3 (fun σ=>passAt tk σ) ha hdb he hpl
end
abbrev AlE:Type:=He.AlD × Bool
def zal (K:PySem.W.Frag) (D:Addr):Bool :=
 He.eqO (PySem.W.findIn K (.ref D) "__getattribute__") (some (some (.builtin "BaseException.__getattribute__")))&&(He.eqO (PySem.W.findIn K (.ref D) "__getattr__") (some none)&&(decide (PySem.W.subIn K (.ref D) (.type "BaseException")=some true)&&(PySem.W.hasDictIn K D&&(He.eqO (PySem.W.findIn K (.ref D) "__class__") (some (some (.builtin "object.__class__"))) &&
 (He.eqO (PySem.W.specialIn K (.builtin "object.__class__") "__get__") (some (some (.builtin "getset_descriptor.__get__")))&&(decide (PySem.W.takesIn K (.builtin "object.__class__")=some true)&&decide (PySem.W.mroIn K D (.type "object")=some true)))))))
theorem zdk {K:PySem.W.Frag} {D:Addr} (h:zal K D=true):ExcC K D:=by
 obtain ⟨h1,h⟩:=He.ba h
 obtain ⟨h2,h⟩:=He.ba h
 obtain ⟨h3,h⟩:=He.ba h
 obtain ⟨h4,h⟩:=He.ba h
 obtain ⟨h5,h⟩:=He.ba h
 obtain ⟨h6,h⟩:=He.ba h
 obtain ⟨h7,h8⟩:=He.ba h
 exact ⟨He.eqO_ok h1,He.eqO_ok h2,of_decide_eq_true h3,h4,He.eqO_ok h5,He.eqO_ok h6,of_decide_eq_true h7,of_decide_eq_true h8⟩
section
variable {J:It} {n:Nat} {G:Hp->Prop} {Y:Nat->Hp->V->Hp->Prop}
theorem lcG (w:Walk J n G Y) {H0:Hp} {Qd:Hp->Prop} {body:(Hp->Prop)->V->Hp->Prop} (Pv:Nat->Hp->Prop) (h0:Pv 0 H0) (hG:∀ i H,i<=n->Pv i H->G H)
  (hs:∀ i x H H',i < n->Pv i H->Y i H x H'->body (Pv (i+1)) x H') (hd:∀ H,Pv n H->Qd H) :
  ∃ W:Nat->Nat->Hp->Prop,(∃ m,W 0 m H0)/\∀ i m H,W i m H ->
   (J.stop i H/\Qd H)\/(J.go i H/\∃ Nx:Hp->Prop,(∀ H',Nx H'->∃ m',m' < m/\W (i+1) m' H')/\∀ x H',J.yld i H x H'->body Nx x H'):=by
 refine ⟨fun i m H=>m=n-i/\i<=n/\Pv i H,⟨n,by simp,Nat.zero_le _,h0⟩,?_⟩
 rintro i m H ⟨rfl,hi,p⟩
 have q:=hG i H hi p
 by_cases hlt:i < n
 ·exact .inr ⟨w.goes i H hlt q,Pv (i+1),fun H' p'=>⟨n-(i+1),by omega,rfl,hlt,p'⟩,fun x H' y=>hs i x H H' hlt p (w.yields i H x H' hlt q y)⟩
 ·have e:i=n:=by omega
  subst e
  exact .inl ⟨w.stops H q,hd H p⟩
end
section
variable {prog:Program} {w:World} {A:Around} {E:Value->Shared->Prop} {s:Shared} {β:Type} {vs:List Value} {bs:List β} {enc:β->PyData} {R:Value->β->Prop}
theorem z6w {t:Addr} {kw:List (Str × Value)} {b:Bool} {Q:Value->Shared->Prop} (hkw:∀ a,Builtin.«list.sort» ⟨[.ref a],kw⟩=Builtin.«list.sort» ⟨[.ref a],[(Str.ofString "reverse",.bool b)]⟩) (ha1:argsOk "sorted" ⟨[.ref t],kw⟩) (ha2:∀ x,argsOk "list.sort" ⟨[.ref x],kw⟩)
  (ht:PlainL s.heap t vs.toArray) (e:EachIs R vs bs) (er:EachIs (fun v b=>∃ as,Reads s.heap v (enc b) as) vs bs) (hal:AllAlike (bs.map enc)) (hk:Sortable (bs.map enc)) (hL:bs.length<=sizeLine)
  (hu:∀ b,b ∈ bs->A.units+2+(enc b).depth < cLine)
  (h:∀ (out:List Value) (h' h2:Heap) (n:Nat),(∀ b o,s.heap.get? b=some o->h'.get? b=some o)->(∀ b o,h'.get? b=some o->h2.get? b=some o)->h2.get? h'.objs.size=some (seqObj "list" out.toArray n)->out.length=bs.length->EachIs R out (bs.mergeSort (dataLe b enc))->Q (.ref h'.objs.size) { s with heap:=h2 }) :
  wpAny (model prog w) A (call (.builtin "sorted") [.ref t] kw) Q E s:=by
 have hlen:vs.length<=sizeLine:=by rw [e.length]; exact hL
 obtain ⟨o,n0,ho,hc,_,hd⟩:=id ht
 refine call_function_entry_kw kind_sorted plain_sorted entry_sorted ha1 ?_
 unfold Builtin.«sorted»
 refine wpAny_bind (m:=checkCount "sorted" 1 1 _) (wpAny_pure ?_)
 refine wpAny_bind (wpAny_collect_seq t (.inl rfl) ho hc hd (fun h' hk'=>?_) (by rw [List.size_toArray]; exact hlen))
 refine wpAny_bind (wpAny_newList ?_ hlen)
 show wpAny _ _ _ _ _ { s with heap:=h'.push (seqObj "list" vs.toArray 0) }
 have hat:(h'.push (seqObj "list" vs.toArray 0)).get? h'.objs.size=some (seqObj "list" vs.toArray 0):=Heap.get?_push_size _ rfl
 refine wpAny_bind (wpAny_holding (wpAny_call_entry_kw slot_list_sort ⟨_,hat,rfl⟩ entry_list_sort ?body (ha2 _)))
 case body =>
  rw [hkw]
  have old:∀ b o,h'.get? b=some o->(sortingHeap (h'.push (seqObj "list" vs.toArray 0)) h'.objs.size vs).get? b=some o:=fun b o q=>sortingHeap_old (Nat.ne_of_lt (Heap.lt_size q)) (Heap.get?_push_of_some _ q)
  have er':EachIs (fun v b=>∃ as,Reads (sortingHeap (h'.push (seqObj "list" vs.toArray 0)) h'.objs.size vs) v (enc b) as) vs bs:=er.mono fun _ _ ⟨as,r⟩=>⟨as,PyProof.Rows.Reads.keeps (fun b o q=>old b o (hk' b o q)) r⟩
  refine list_sort_rev_vals (s:={ s with heap:=h'.push (seqObj "list" vs.toArray 0) }) (κ:=dataKind (sortingHeap (h'.push (seqObj "list" vs.toArray 0)) h'.objs.size vs) (bs.map enc)) hat (SortsAt.data (s:={ s with heap:=sortingHeap (h'.push (seqObj "list" vs.toArray 0)) h'.objs.size vs }) (each_map (R:=fun v d=>∃ as,Reads (sortingHeap (h'.push (seqObj "list" vs.toArray 0)) h'.objs.size vs) v d as) enc er') hal hk (bound_map hu)) hlen ?_
  refine ⟨_,rfl,wpAny_pure ⟨_,rfl,?_⟩⟩
  obtain ⟨n2,hn2⟩:=sortedHeap_at (out:=(sortVals (dataKind (sortingHeap (h'.push (seqObj "list" vs.toArray 0)) h'.objs.size vs) (bs.map enc)) b vs vs).toArray) hat
  refine h _ h' _ n2 hk' (fun b o q=>?_) hn2 (by rw [sortVals_length b rfl]; exact e.length) (sortVals_data b e er' hal)
  rw [sortedHeap_old (Nat.ne_of_lt (Heap.lt_size q)) (by rw [size_push']; exact Nat.lt_succ_of_lt (Heap.lt_size q))]
  exact Heap.get?_push_of_some _ q
end
def z7f (K:PySem.W.Frag) {β:Type} (enc:β->PyData) (b:Bool) (vs:List V) (H:Hp) (Q:VK):Prop:=∃ (a:Addr) (xs:List V) (bs:List β),vs=[V.ref a]/\SqL K H a xs/\Bears K H enc xs bs/\AllAlike (bs.map enc)/\Sortable (bs.map enc)/\bs.length<=10000000/\(∀ b ∈ bs,(enc b).depth<=100) /\
 ∀ (p:Addr) (ys:List V),H p=none->Bears K H enc ys (bs.mergeSort (dataLe b enc))->Q (.ref p) (upd H p (.lst ys))
section
variable {X:Cx}
theorem z6r {β:Type} {enc:β->PyData} {b:Bool} {kw:List (Str × Value)} (hu:X.A.units+110 < cLine) (hkw:∀ a,Builtin.«list.sort» ⟨[.ref a],kw⟩=Builtin.«list.sort» ⟨[.ref a],[(Str.ofString "reverse",.bool b)]⟩) (ha1:∀ t,argsOk "sorted" ⟨[.ref t],kw⟩) (ha2:∀ x,argsOk "list.sort" ⟨[.ref x],kw⟩)
  {pins:List (Addr × Obj)} {s:Shared} {σ:L2.St} {H:Hp} {vs:List V} {us:List Value} {Q:VK} (I:Inv X pins σ H s) (r:Vals vs us) (h:z7f X.K enc b vs H Q):wpAny (model X.prog X.w) X.A (call (.builtin "sorted") us kw) (EP X pins σ Q) X.xe s:=by
 obtain ⟨a,xs,bs,rfl,hs,hb,hal,hsr,hl,hd,q⟩:=h
 obtain ⟨its,rv,hli,_⟩:=I.list hs
 rw [Vals.ref1 r]
 obtain ⟨e1,e2⟩:=z28 I hb rv
 refine z6w (vs:=its) (bs:=bs) (enc:=enc) (R:=fun u b=>∃ v,RelV v u/\Dp X.K H v (enc b)) hkw (ha1 _) ha2 hli e1 e2 hal hsr (by rw [sizeLine_eq]; omega) (fun b m=>by have:=hd b m; omega) fun out h' h2 n k1 k2 hat ho h1=>?_
 obtain ⟨ys,g2,g3⟩:=z36 h1
 have I':Inv X pins σ H { s with heap:=h' }:=I.kept (t':=s.toks) k1
 have hlen:ys.length<=sizeLine:=by rw [g2.length,ho,sizeLine_eq]; omega
 exact ⟨.ref _,upd H h'.objs.size (.lst ys),I'.laid (t':=s.toks) (fun b o e=>k2 b o e) (Nat.le_refl _) ⟨hlen,out,n,g2,hat⟩,rfl,q _ ys (I'.hok.fresh (Nat.le_refl _)) g3⟩
theorem zb8 {β:Type} (enc:β->PyData) (hu:X.A.units+110 < cLine):CallR X (.builtin "sorted") (z7f X.K enc false):=by
 intro pins s σ H vs us Q I r h
 exact z6r (kw:=[]) hu plain_is_rev (fun _=>args_sorted1 _) (fun _=>args_list_sort _) I r h
theorem z9w {β:Type} (enc:β->PyData) {b:Bool} (hu:X.A.units+110 < cLine):CallRK X (.builtin "sorted") [Str.ofString "reverse"] (fun vs zs H Q=>zs=[.bl b]/\z7f X.K enc b vs H Q):=by
 intro pins s σ H vs zs us ws Q I r rz h
 obtain ⟨rfl,h⟩:=h
 obtain ⟨w1,rfl,e1⟩:=vals1 rz
 obtain rfl:w1=Value.bool b:=e1
 exact z6r hu (fun _=>rfl) (fun _=>args_sorted_rev _ _) (fun _=>args_list_sort_rev _ _) I r h
end
namespace Lad
def bths (ls:List Lad):Lad:=ofPs (jn (dsc (ls.flatMap ps)))
theorem bths_two (l k:Lad):bths [l,k]=bth l k:=by simp [bths,bth,List.flatMap]
end Lad
def z5m (K:PySem.W.Frag):Sp:=fun vs H Q _=>∃ (v:V) (l:Lad),vs=[v]/\LA K H v l/\∀ (x:V) (H':Hp),SB [] H H'->LA K H' x (.cons l 1 .nil)->Q x H'
def z7t (K:PySem.W.Frag):Sp:=fun vs H Q _=>∃ (a:Addr) (xs:List V) (ls:List Lad),vs=[.ref a]/\SqL K H a xs/\Bears K H Lad.enc xs ls/\(∀ l ∈ ls,l.deep<=30)/\(ls.flatMap Lad.ps).length<=1900000/\∀ (x:V) (H':Hp),SB [] H H'->LA K H' x (Lad.bths ls)->Q x H'
namespace Lad
section
variable {B C D:Int}
abbrev uno:Lad:=.cons .nil 1 .nil
theorem num_one:Lad.num 1=uno:=if_neg (by decide)
theorem uno_ok:uno.Ok 2:=⟨trivial,by decide,by decide,trivial,by simp [ps]⟩
theorem S_uno (e x:Lad):S (.cons e 1 .nil) x=if e=x then 1 else 0:=by
 show sumAt ((e,1)::[]) x=_
 rw [sumAt_cons,sumAt_nil,Int.add_zero]
theorem S_suc (e x:Lad):S (bhd e uno) x=S e x+if Lad.nil=x then 1 else 0:=by
 rw [S_bhd uno_ok,S_uno]
 have:cov uno x=true:=by simp [cov,ps,lt_nil_r]
 rw [if_pos this]
theorem suc_lt {e:Lad} (he:e.Ok B) (hB:1<=B):e.lt (bhd e uno)=true:=by
 rw [lt_iff he (bhd_ok he uno_ok hB (by decide))]
 refine ⟨.nil,?_,fun y hy=>?_⟩
 ·rw [S_suc,if_pos rfl]; omega
 ·rw [S_suc,if_neg (lt_ne hy),Int.add_zero]
theorem sumAt_filter (e x:Lad):∀ bs:List (Lad × Int),sumAt (bs.filter fun p=>e.lt p.1) x=if e.lt x=true then sumAt bs x else 0
 | []=>by simp [sumAt_nil]
 | (a,m)::r=>by
  have ih:=sumAt_filter e x r
  rw [List.filter_cons]
  by_cases h:e.lt a=true
  ·rw [if_pos h,sumAt_cons,sumAt_cons,ih]
   by_cases hx:e.lt x=true
   ·rw [if_pos hx,if_pos hx]
   ·have:a ≠ x:=fun z=>hx (z ▸ h)
    rw [if_neg hx,if_neg hx,if_neg this]; rfl
  ·rw [if_neg h,ih,sumAt_cons]
   by_cases hx:e.lt x=true
   ·have:a ≠ x:=fun z=>h (z ▸ hx)
    rw [if_pos hx,if_pos hx,if_neg this,Int.zero_add]
   ·rw [if_neg hx,if_neg hx]
theorem filter_ok {l:Lad} (h:l.Ok B) (g:Lad × Int->Bool):(ofPs (l.ps.filter g)).Ok B:=by
 have:=ok_iff.mp h
 rw [ok_ps]
 exact ⟨fun p hp=>this.1 p (List.mem_filter.mp hp).1,this.2.filter _⟩
theorem filter_parts (l:Lad) (g:Lad × Int->Bool):(ofPs (l.ps.filter g)).parts<=l.parts:=by
 have h:=tot_filter g l.ps
 rw [parts_ofPs]
 have h2:tot l.ps=l.parts:=by rw [<- parts_ofPs,ofPs_ps]
 omega
theorem filter_deep {n:Nat} {l:Lad} (g:Lad × Int->Bool) (h:l.deep<=n):(ofPs (l.ps.filter g)).deep<=n :=
 deep_ofPs fun b hb=>Nat.lt_of_lt_of_le (mem_deep l b (List.mem_filter.mp hb).1) h
def abv (l:Lad):Lad->Lad
 | .nil=>bth l uno
 | .cons e _ _=>bth (ofPs (l.ps.filter fun p=>e.lt p.1)) (.cons (bhd e uno) 1 .nil)
theorem pow_ok {e:Lad} (h:e.Ok B) (hB:2<=B):(Lad.cons e 1 .nil).Ok B:=⟨h,by decide,by omega,trivial,by simp [ps]⟩
theorem abv_ok {l k:Lad} (hl:l.Ok B) (hk:k.Ok C) (hB:1<=B) (hC:1<=C):(abv l k).Ok (B+(C+2)):=by
 cases k with
 | nil=>exact (bth_ok hl uno_ok hB (by decide)).mono (by omega)
 | cons e m r=>exact bth_ok (filter_ok hl _) (pow_ok (bhd_ok hk.1 uno_ok hC (by decide)) (by omega)) hB (by omega)
theorem abv_parts (l k:Lad):(abv l k).parts<=l.parts+k.parts+2:=by
 cases k with
 | nil=>have:=bth_parts l uno; show (bth l uno).parts<=_; have h1:uno.parts=1:=rfl; omega
 | cons e m r =>
  have h1:=bth_parts (ofPs (l.ps.filter fun p=>e.lt p.1)) (.cons (bhd e uno) 1 .nil)
  have h2:=filter_parts l fun p=>e.lt p.1
  have h3:=bhd_parts e uno
  have h4:(Lad.cons (bhd e uno) 1 .nil).parts=1+(bhd e uno).parts+0:=rfl
  have h5:(Lad.cons e m r).parts=1+e.parts+r.parts:=rfl
  have h6:uno.parts=1:=rfl
  show (bth _ _).parts<=_
  omega
theorem abv_deep {n:Nat} {l k:Lad} (hl:l.deep<=n) (hk:k.deep<=n) (hn:2<=n):(abv l k).deep<=n:=by
 cases k with
 | nil=>exact bth_deep hl (by show 1<=n; omega)
 | cons e m r =>
  refine bth_deep (filter_deep _ hl) ?_
  have h1:1+e.deep<=n:=Nat.le_trans (Nat.le_max_left _ _) hk
  have h2:=bhd_deep (n:=n-1) (l:=e) (k:=uno) (by omega) (by show 1<=n-1; omega)
  show max (1+(bhd e uno).deep) 0<=n
  omega
theorem S_abv (l e:Lad) (m:Int) (r x:Lad):S (abv l (.cons e m r)) x=(if e.lt x=true then S l x else 0)+if bhd e uno=x then 1 else 0:=by
 show S (bth _ _) x=_
 rw [S_bth,S_uno]
 show sumAt (ofPs _).ps x+_=_
 rw [ps_ofPs,sumAt_filter]
theorem btm_ok {l k:Lad} {n:Int} (hl:l.Ok B) (hk:k.Ok C) (hB:1<=B) (hC:1<=C) (hn:0<=n):(bth l (tms k n)).Ok (B+(C*n+C)):=by
 have:0<=C*n:=Int.mul_nonneg (by omega) hn
 exact bth_ok hl (tms_ok hk hn) hB (by omega)
theorem S_btm (l k x:Lad) (n:Int):S (bth l (tms k n)) x=S l x+S k x*n:=by rw [S_bth,S_tms]
theorem abv_gt {l k:Lad} {n:Int} (hl:l.Ok B) (hk:k.Ok C) (hB:1<=B) (hC:1<=C) (hn:0<=n):(bth l (tms k n)).lt (abv l k)=true:=by
 rw [lt_iff (btm_ok hl hk hB hC hn) (abv_ok hl hk hB hC)]
 cases k with
 | nil =>
  have e0:∀ x,S Lad.nil x=0:=fun x=>rfl
  refine ⟨.nil,?_,fun y hy=>?_⟩
  ·rw [S_btm]
   show _ < S (bth l uno) .nil
   rw [S_bth,S_uno,if_pos rfl,e0,Int.zero_mul]; omega
  ·rw [S_btm]
   show _=S (bth l uno) y
   rw [S_bth,S_uno,if_neg (lt_ne hy),e0,Int.zero_mul]
 | cons e m r =>
  have hes:=suc_lt hk.1 hC
  refine ⟨bhd e uno,?_,fun y hy=>?_⟩
  ·rw [S_btm,S_abv,if_pos hes,if_pos rfl,S_above hk hes,Int.zero_mul]; omega
  ·have hy2:=lt_trans _ _ _ hes hy
   rw [S_btm,S_abv,if_pos hy2,if_neg (lt_ne hy),S_above hk hy2,Int.zero_mul]
def spd:Lad->Lad->Lad
 | .cons e m r,.nil=>.cons e m r
 | .nil,.nil=>.nil
 | .nil,k=>k
 | .cons e _ _,k=>.cons (bhd e k) 1 .nil
end
end Lad
def z7b (K:PySem.W.Frag):Sp:=fun vs H Q _=>∃ (v u:V) (e:Lad) (m:Int) (r k:Lad),vs=[v,u]/\LA K H v (.cons e m r)/\LA K H u k/\(Lad.cons e m r).deep<=30/\k.deep<=30/\(Lad.cons e m r).parts<=900000/\k.parts<=900000/\∀ (x:V) (H':Hp),SB [] H H'->LA K H' x (Lad.spd (.cons e m r) k)->Q x H'
def z8m (K:PySem.W.Frag):Sp:=fun vs H Q _=>∃ (v u:V) (l k:Lad),vs=[v,u]/\LA K H v l/\LA K H u k/\l.deep<=29/\k.deep<=29/\l.parts<=390000/\k.parts<=390000/\∀ (x:V) (H':Hp),SB [] H H'->LA K H' x (l.abv k)->Q x H'
theorem z16 (x:PyData):dataLt x x=false:=lex_irrefl (O:=itemOrd) _
theorem z3u {x y z:PyData} (h:dataLt x y=true) (h2:dataLt y z=true):dataLt x z=true:=lex_trans (O:=itemOrd) _ _ _ h h2
theorem zdj {x y:PyData} (al:alike x y=true) (h:dataLt x y=false) (h2:dataLt y x=false):PyData.eqv x y=true:=by
 have e:keyToks x=keyToks y:=lex_total (O:=itemOrd) _ _ h h2
 cases hq:PyData.eqv x y with
 | true=>rfl
 | false =>
  have t:=(toks_eqv x y al).2 hq [.inl 0] [.inl 1]
  rw [e] at t
  have t2:PyProof.Rows.lexLt itemOrd (keyToks y++[.inl 0]) (keyToks y++[.inl 1])=PyProof.Rows.lexLt itemOrd [.inl 0] [.inl 1]:=lex_pre _ _ _
  have t3:PyProof.Rows.lexLt itemOrd (keyToks y) (keyToks y)=false:=lex_irrefl (O:=itemOrd) _
  rw [t2,t3,lex_one] at t
  revert t
  decide
theorem z3o {x y:PyData} (h:dataLt x y=true):dataLt y x=false:=by
 cases e:dataLt y x with
 | false=>rfl
 | true=>have:=z3u h e; rw [z16] at this; cases this
class Orderly {γ:Type} [DecidableEq γ] (enc:γ->PyData):Prop where
 al:∀ a b,alike (enc a) (enc b)=true
 eq:∀ a b,PyData.eqv (enc a) (enc b)=decide (a=b)
section
variable {γ:Type} [DecidableEq γ] {enc:γ->PyData} [O:Orderly enc]
theorem z7y {a b:γ} (hne:a ≠ b) (h:dataLt (enc a) (enc b)=false):dataLt (enc b) (enc a)=true:=by
 cases e:dataLt (enc b) (enc a) with
 | true=>rfl
 | false =>
  have:=zdj (O.al a b) h e
  rw [O.eq] at this
  exact absurd (of_decide_eq_true this) hne
theorem zff {a b:γ} (h:dataLt (enc a) (enc b)=true):a ≠ b:=fun z=>by subst z; rw [z16] at h; cases h
instance:Orderly (z0j enc) where
 al a b:=by simp [z0j,alike,alikeAll,O.al a.1 b.1]
 eq a b:=by
  simp only [z0j,PyData.eqv,PyData.eqvAll,O.eq,Bool.and_true,ib]
  by_cases h:a=b
  ·subst h; simp
  ·rw [decide_eq_false h]
   rw [Bool.and_eq_false_iff]
   by_cases h1:a.1=b.1
   ·exact .inr (decide_eq_false fun h2=>h (Prod.ext h1 h2))
   ·exact .inl (decide_eq_false h1)
theorem zdf (p q:γ × Int):dataLt (z0j enc p) (z0j enc q)=if p.1=q.1 then decide (p.2 < q.2) else dataLt (enc p.1) (enc q.1):=by
 unfold z0j
 rw [dataLt_pair (O.al p.1 q.1) (by simp [alike]),O.eq]
 by_cases h:p.1=q.1
 ·rw [if_pos (by simp [h]),if_pos h,dataLt_int]
  by_cases h2:p.2=q.2
  ·simp [PyData.eqv,h2]
  ·simp [PyData.eqv,h2]
 ·rw [if_neg (by simp [h]),if_neg h]
def srtE (enc:γ->PyData) (bs:List γ):List γ:=bs.mergeSort (dataLe false enc)
theorem z0r (bs:List γ):(srtE enc bs).Perm bs:=List.mergeSort_perm _ _
theorem zgr (bs:List γ):(srtE enc bs).Pairwise (fun a b=>dataLt (enc b) (enc a)=false):=by
 have h:=List.pairwise_mergeSort (le:=dataLe false enc) (fun a b c h1 h2=>?_) (fun a b=>?_) bs
 ·refine h.imp fun {a b} hab=>?_
  rw [dataLe_eq] at hab
  simpa using hab
 ·rw [dataLe_eq] at h1 h2 ⊢
  simp only [cond_false,Bool.not_eq_true'] at h1 h2 ⊢
  by_cases hab:a=b
  ·subst hab; exact h2
  ·by_cases hbc:b=c
   ·subst hbc; exact h1
   ·exact z3o (z3u (z7y (fun z=>hab z.symm) h1) (z7y (fun z=>hbc z.symm) h2))
 ·rw [dataLe_eq]
  simp only [cond_false]
  cases e:dataLt (enc b) (enc a) with
  | false=>rfl
  | true=>rw [z3o e]; rfl
def sumE (ps:List (γ × Int)) (x:γ):Int:=match ps with
 | []=>0
 | p::r=>(if p.1=x then p.2 else 0)+sumE r x
theorem z0x (x:γ):∀ (as bs:List (γ × Int)),sumE (as++bs) x=sumE as x+sumE bs x
 | [],bs=>by simp [sumE]
 | p::r,bs=>by show _+sumE (r++bs) x=_; rw [z0x x r bs,sumE]; omega
theorem zca {as bs:List (γ × Int)} (h:as.Perm bs) (x:γ):sumE as x=sumE bs x:=by
 induction h with
 | nil=>rfl
 | cons y _ ih=>simp only [sumE]; omega
 | swap y z l=>simp only [sumE]; omega
 | trans _ _ h1 h2=>omega
theorem zaz (acc:List (γ × Int)) (p:γ × Int) (x:γ):sumE (z04 acc p) x=sumE acc x+(if p.1=x then p.2 else 0):=by
 rcases List.eq_nil_or_concat acc with h | ⟨a,z,h⟩
 ·subst h; rw [z0n]; simp [sumE]
 ·subst h
  rw [List.concat_eq_append,z09]
  by_cases hz:z.1=p.1
  ·rw [if_pos hz,z0x,z0x]
   simp only [sumE,hz]
   by_cases hx:p.1=x
   ·simp only [if_pos hx]; omega
   ·simp only [if_neg hx]; omega
  ·rw [if_neg hz,z0x]; simp only [sumE]; omega
theorem zgq (bs:List (γ × Int)) (x:γ):sumE (jn bs) x=sumE bs x:=by
 have key:∀ (bs acc:List (γ × Int)),sumE (bs.foldl z04 acc) x=sumE acc x+sumE bs x:=by
  intro bs
  induction bs with
  | nil=>intro acc; simp [sumE]
  | cons p r ih =>
   intro acc
   show sumE (r.foldl z04 (z04 acc p)) x=_
   rw [ih,zaz,sumE]; omega
 have:=key bs []
 simpa [jn,sumE] using this
theorem zgo {bs:List (γ × Int)} (h:bs.Pairwise (fun a b=>dataLt (enc b.1) (enc a.1)=false)):(jn bs).Pairwise (fun p q=>dataLt (enc p.1) (enc q.1)=true):=by
 have key:∀ (bs acc:List (γ × Int)),acc.Pairwise (fun p q=>dataLt (enc p.1) (enc q.1)=true)->(∀ a ∈ acc,∀ b ∈ bs,dataLt (enc b.1) (enc a.1)=false)->bs.Pairwise (fun a b=>dataLt (enc b.1) (enc a.1)=false)->(bs.foldl z04 acc).Pairwise (fun p q=>dataLt (enc p.1) (enc q.1)=true):=by
  intro bs
  induction bs with
  | nil=>intro acc h _ _; exact h
  | cons p r ih =>
   intro acc h1 h2 h3
   obtain ⟨h31,h32⟩:=List.pairwise_cons.mp h3
   refine ih (z04 acc p) ?_ ?_ h32
   ·rcases List.eq_nil_or_concat acc with h | ⟨a,z,h⟩
    ·subst h; rw [z0n]; exact List.pairwise_singleton _ _
    ·subst h
     rw [List.concat_eq_append] at h1 h2 ⊢
     rw [z09]
     obtain ⟨a1,_,a3⟩:=List.pairwise_append.mp h1
     by_cases hz:z.1=p.1
     ·rw [if_pos hz,List.pairwise_append]
      refine ⟨a1,List.pairwise_singleton _ _,fun x hx y hy=>?_⟩
      have hy':y=(p.1,z.2+p.2):=by simpa using hy
      subst hy'
      show dataLt (enc x.1) (enc p.1)=true
      rw [<- hz]; exact a3 x hx z (by simp)
     ·rw [if_neg hz,List.pairwise_append]
      refine ⟨h1,List.pairwise_singleton _ _,fun x hx y hy=>?_⟩
      have hy':y=p:=by simpa using hy
      subst hy'
      have hzp:dataLt (enc z.1) (enc y.1)=true:=z7y (fun q=>hz q.symm) (h2 z (by simp) y (mcs ..))
      rcases List.mem_append.mp hx with hx | hx
      ·exact z3u (a3 x hx z (by simp)) hzp
      ·have hx':x=z:=by simpa using hx
       subst hx'; exact hzp
   ·intro a ha b hb
    have hpb:=h31 b hb
    rcases List.eq_nil_or_concat acc with h | ⟨c,z,h⟩
    ·subst h
     rw [z0n] at ha
     have:a=p:=by simpa using ha
     subst this; exact hpb
    ·subst h
     rw [List.concat_eq_append] at ha h2
     rw [z09] at ha
     by_cases hz:z.1=p.1
     ·rw [if_pos hz] at ha
      rcases List.mem_append.mp ha with ha | ha
      ·exact h2 a (mal _ ha) b (mcm _ hb)
      ·have:a=(p.1,z.2+p.2):=by simpa using ha
       subst this; exact hpb
     ·rw [if_neg hz] at ha
      rcases List.mem_append.mp ha with ha | ha
      ·exact h2 a ha b (mcm _ hb)
      ·have:a=p:=by simpa using ha
       subst this; exact hpb
 exact key bs [] List.Pairwise.nil (by simp) h
theorem zcr (bs:List (γ × Int)):(srtE (z0j enc) bs).Pairwise (fun a b=>dataLt (enc b.1) (enc a.1)=false):=by
 refine (zgr (enc:=z0j enc) bs).imp fun {a b} hab=>?_
 rw [zdf] at hab
 by_cases h:b.1=a.1
 ·rw [h]; exact z16 _
 ·rw [if_neg h] at hab; exact hab
def tdy (enc:γ->PyData) (bs:List (γ × Int)):List (γ × Int):=jn (srtE (z0j enc) bs)
theorem z9g (bs:List (γ × Int)):(tdy enc bs).Pairwise (fun p q=>dataLt (enc p.1) (enc q.1)=true):=zgo (zcr bs)
theorem z8j (bs:List (γ × Int)) (x:γ):sumE (tdy enc bs) x=sumE bs x:=by
 unfold tdy
 rw [zgq,zca (z0r bs)]
theorem z2i (bs:List (γ × Int)):∀ p ∈ tdy enc bs,∃ q ∈ bs,q.1=p.1:=fun p hp=>by
 obtain ⟨q,hq,e⟩:=z1l _ p hp
 exact ⟨q,(z0r bs).mem_iff.mp hq,e⟩
def allE:List (γ × Int)->Int
 | []=>0
 | p::r=>p.2+allE r
theorem z1b:∀ as bs:List (γ × Int),allE (as++bs)=allE as+allE bs
 | [],bs=>by simp [allE]
 | p::r,bs=>by show _+allE (r++bs)=_; rw [z1b r bs,allE]; omega
theorem zby {as bs:List (γ × Int)} (h:as.Perm bs):allE as=allE bs:=by
 induction h with
 | nil=>rfl
 | cons y _ ih=>simp only [allE]; omega
 | swap y z l=>simp only [allE]; omega
 | trans _ _ h1 h2=>omega
theorem zjq (bs:List (γ × Int)):allE (jn bs)=allE bs:=by
 have key:∀ (bs acc:List (γ × Int)),allE (bs.foldl z04 acc)=allE acc+allE bs:=by
  intro bs
  induction bs with
  | nil=>intro acc; simp [allE]
  | cons p r ih =>
   intro acc
   show allE (r.foldl z04 (z04 acc p))=_
   rw [ih]
   have e:allE (z04 acc p)=allE acc+p.2:=by
    rcases List.eq_nil_or_concat acc with h | ⟨a,z,h⟩
    ·subst h; rw [z0n]; simp [allE]
    ·subst h
     rw [List.concat_eq_append,z09]
     split
     ·rw [z1b,z1b]; simp only [allE]; omega
     ·rw [z1b]; simp only [allE]; omega
   rw [e,allE]; omega
 have:=key bs []
 simpa [jn,allE] using this
theorem zid {bs:List (γ × Int)} (h:∀ p ∈ bs,1<=p.2):∀ p ∈ jn bs,1<=p.2:=by
 have key:∀ (bs acc:List (γ × Int)),(∀ p ∈ acc,1<=p.2)->(∀ p ∈ bs,1<=p.2)->∀ p ∈ bs.foldl z04 acc,1<=p.2:=by
  intro bs
  induction bs with
  | nil=>intro acc h _; exact h
  | cons p r ih =>
   intro acc h1 h2
   refine ih (z04 acc p) (fun q hq=>?_) fun q hq=>h2 q (mcm _ hq)
   have hp:=h2 p (mcs ..)
   rcases List.eq_nil_or_concat acc with h | ⟨a,z,h⟩
   ·subst h
    rw [z0n] at hq
    have:q=p:=by simpa using hq
    subst this; exact hp
   ·subst h
    rw [List.concat_eq_append] at h1 hq
    rw [z09] at hq
    have hz:=h1 z (by simp)
    by_cases e:z.1=p.1
    ·rw [if_pos e] at hq
     rcases List.mem_append.mp hq with hq | hq
     ·exact h1 q (mal _ hq)
     ·have:q=(p.1,z.2+p.2):=by simpa using hq
      subst this; show 1<=z.2+p.2; omega
    ·rw [if_neg e] at hq
     rcases List.mem_append.mp hq with hq | hq
     ·exact h1 q hq
     ·have:q=p:=by simpa using hq
      subst this; exact hp
 exact key bs [] (by simp) h
theorem zhh {bs:List (γ × Int)} (h:∀ p ∈ bs,1<=p.2):∀ p ∈ bs,p.2<=allE bs:=by
 induction bs with
 | nil=>intro p hp; cases hp
 | cons a r ih =>
  intro p hp
  have hr:0<=allE r:=by
   clear ih hp
   have:∀ p ∈ r,1<=p.2:=fun p hp=>h p (mcm _ hp)
   clear h
   induction r with
   | nil=>exact Int.le_refl _
   | cons b r ih2 =>
    have h1:=this b (mcs ..)
    have h2:=ih2 fun p hp=>this p (mcm _ hp)
    show 0<=b.2+allE r; omega
  have ha:=h a (mcs ..)
  rcases List.mem_cons.mp hp with hp | hp
  ·subst hp; show p.2<=p.2+allE r; omega
  ·have:=ih (fun p hp=>h p (mcm _ hp)) p hp
   show p.2<=a.2+allE r; omega
theorem za3 {bs:List (γ × Int)} (h:∀ p ∈ bs,1<=p.2):∀ p ∈ tdy enc bs,1<=p.2/\p.2<=allE bs:=fun p hp=>by
 have h0:∀ p ∈ srtE (z0j enc) bs,1<=p.2:=fun p hp=>h p ((z0r bs).mem_iff.mp hp)
 have h1:=zid h0
 refine ⟨h1 p hp,?_⟩
 have h2:=zhh h1 p hp
 rw [zjq,zby (z0r bs)] at h2
 exact h2
end
inductive Gr where
 | nil
 | cons (k:Str) (g:Gr) (m:Int) (r:Gr)
 deriving DecidableEq
abbrev Tr:=Str × Gr
def z02 (k:Str):Prop:=1<=k.cps.toList.length/\k.cps.toList.length<=8/\∀ c ∈ k.cps.toList,97<=c/\c<=122
namespace Gr
def encs:Gr->List PyData
 | .nil=>[]
 | .cons k g m r=>.tuple [.tuple [.str k,.tuple g.encs],.int m]::r.encs
def enc (g:Gr):PyData:=.tuple g.encs
def tEnc (t:Tr):PyData:=.tuple [.str t.1,t.2.enc]
abbrev pEnc:Tr × Int->PyData:=z0j tEnc
def ps:Gr->List (Tr × Int)
 | .nil=>[]
 | .cons k g m r=>((k,g),m)::r.ps
def ofPs:List (Tr × Int)->Gr
 | []=>.nil
 | p::r=>.cons p.1.1 p.1.2 p.2 (ofPs r)
theorem ofPs_ps:∀ g:Gr,ofPs g.ps=g
 | .nil=>rfl
 | .cons k g m r=>by show Gr.cons k g m (ofPs r.ps)=_; rw [ofPs_ps r]
theorem ps_ofPs:∀ bs:List (Tr × Int),(ofPs bs).ps=bs
 | []=>rfl
 | p::r=>by show ((p.1.1,p.1.2),p.2)::(ofPs r).ps=_; rw [ps_ofPs r]
theorem encs_ps:∀ g:Gr,g.encs=g.ps.map pEnc
 | .nil=>rfl
 | .cons k g m r=>by show _::r.encs=_::r.ps.map pEnc; rw [encs_ps r]; rfl
def parts:Gr->Nat
 | .nil=>0
 | .cons _ g _ r=>1+g.parts+r.parts
def deep:Gr->Nat
 | .nil=>0
 | .cons _ g _ r=>max (1+g.deep) r.deep
def tot:List (Tr × Int)->Nat
 | []=>0
 | p::r=>1+p.1.2.parts+tot r
theorem parts_ofPs:∀ bs:List (Tr × Int),(ofPs bs).parts=tot bs
 | []=>rfl
 | p::r=>by show 1+p.1.2.parts+(ofPs r).parts=1+p.1.2.parts+tot r; rw [parts_ofPs r]
theorem tot_ps (g:Gr):tot g.ps=g.parts:=by rw [<- parts_ofPs,ofPs_ps]
theorem tot_append:∀ bs cs:List (Tr × Int),tot (bs++cs)=tot bs+tot cs
 | [],cs=>by simp [tot]
 | p::r,cs=>by show 1+p.1.2.parts+tot (r++cs)=_; rw [tot_append r cs,tot]; omega
theorem tot_perm {bs cs:List (Tr × Int)} (h:bs.Perm cs):tot bs=tot cs:=by
 induction h with
 | nil=>rfl
 | cons x _ ih=>simp only [tot]; omega
 | swap x y l=>simp only [tot]; omega
 | trans _ _ h1 h2=>omega
theorem len_tot:∀ bs:List (Tr × Int),bs.length<=tot bs
 | []=>Nat.le_refl _
 | p::r=>by have:=len_tot r; show r.length+1<=1+p.1.2.parts+tot r; omega
theorem tot_jn (bs:List (Tr × Int)):tot (jn bs)<=tot bs:=by
 have key:∀ (bs acc:List (Tr × Int)),tot (bs.foldl z04 acc)<=tot acc+tot bs:=by
  intro bs
  induction bs with
  | nil=>intro acc; simp [tot]
  | cons x r ih =>
   intro acc
   have h1:=ih (z04 acc x)
   have h2:tot (z04 acc x)<=tot acc+(1+x.1.2.parts):=by
    rcases List.eq_nil_or_concat acc with h | ⟨a,z,h⟩
    ·subst h; simp [z0n,tot]
    ·subst h
     rw [List.concat_eq_append,z09]
     by_cases hz:z.1=x.1
     ·rw [if_pos hz,tot_append,tot_append]; simp only [tot]; rw [hz]; omega
     ·rw [if_neg hz,tot_append,tot_append]; simp only [tot]; omega
   show tot (r.foldl z04 (z04 acc x))<=tot acc+(1+x.1.2.parts+tot r)
   omega
 have:=key bs []
 simpa [jn,tot] using this
theorem mem_deep:∀ (g:Gr) (p:Tr × Int),p ∈ g.ps->p.1.2.deep < g.deep
 | .nil,p,h=>by cases h
 | .cons k g m r,p,h=>by
  rcases List.mem_cons.mp h with h | h
  ·subst h; show g.deep < max (1+g.deep) r.deep; omega
  ·have:=mem_deep r p h; show _ < max (1+g.deep) r.deep; omega
theorem mem_parts:∀ (g:Gr) (p:Tr × Int),p ∈ g.ps->p.1.2.parts < g.parts
 | .nil,p,h=>by cases h
 | .cons k g m r,p,h=>by
  rcases List.mem_cons.mp h with h | h
  ·subst h; show g.parts < 1+g.parts+r.parts; omega
  ·have:=mem_parts r p h; show _ < 1+g.parts+r.parts; omega
theorem deep_le {n:Nat}:∀ {g:Gr},(∀ p ∈ g.ps,p.1.2.deep < n)->g.deep<=n
 | .nil,_=>Nat.zero_le _
 | .cons k g m r,h=>by
  have h1:=h ((k,g),m) (mcs ..)
  have h2:=deep_le (g:=r) fun p hp=>h p (mcm _ hp)
  show max (1+g.deep) r.deep<=n
  have:g.deep < n:=h1
  omega
theorem len_parts (g:Gr):g.ps.length<=g.parts:=by have:=len_tot g.ps; rw [tot_ps] at this; exact this
theorem alikes:∀ g h:Gr,alikeAll g.encs h.encs=true
 | .nil,_=>by simp [encs,alikeAll]
 | .cons _ _ _ _,.nil=>by simp [encs,alikeAll]
 | .cons k g m r,.cons k' g' m' r'=>by
  have h1:=alikes g g'
  have h2:=alikes r r'
  simp [encs,alikeAll,alike,h1,h2]
theorem alike_enc (g h:Gr):alike g.enc h.enc=true:=by
 show alike (.tuple g.encs) (.tuple h.encs)=true
 rw [alike]; exact alikes g h
theorem sb (a b:Str):(a == b)=decide (a=b):=by by_cases h:a=b <;> simp [h]
theorem eqvs:∀ g h:Gr,PyData.eqvAll g.encs h.encs=decide (g=h)
 | .nil,.nil=>by simp [encs,PyData.eqvAll]
 | .nil,.cons _ _ _ _=>by simp [encs,PyData.eqvAll]
 | .cons _ _ _ _,.nil=>by simp [encs,PyData.eqvAll]
 | .cons k g m r,.cons k' g' m' r'=>by
  have h1:=eqvs g g'
  have h2:=eqvs r r'
  simp [encs,PyData.eqvAll,PyData.eqv,h1,h2,Bool.and_assoc,ib,sb]
theorem eqv_enc (g h:Gr):PyData.eqv g.enc h.enc=decide (g=h):=by
 rw [enc,enc,PyData.eqv]; exact eqvs g h
instance:Orderly tEnc where
 al a b:=by simp [tEnc,alike,alikeAll,alike_enc]
 eq a b:=by
  simp only [tEnc,PyData.eqv,PyData.eqvAll,eqv_enc,Bool.and_true,sb]
  by_cases h:a=b
  ·subst h; simp
  ·rw [decide_eq_false h,Bool.and_eq_false_iff]
   by_cases h1:a.1=b.1
   ·exact .inr (decide_eq_false fun h2=>h (Prod.ext h1 h2))
   ·exact .inl (decide_eq_false h1)
theorem noLists_encs:∀ g:Gr,z07 g.encs=true
 | .nil=>by simp [encs,z07]
 | .cons k g m r=>by simp [encs,z07,z03,noLists_encs g,noLists_encs r]
theorem noList_enc (g:Gr):z03 g.enc=true:=by simp [enc,z03,noLists_encs g]
theorem noList_tEnc (t:Tr):z03 (tEnc t)=true:=by simp [tEnc,z03,z07,noList_enc]
theorem noList_pEnc (p:Tr × Int):z03 (pEnc p)=true:=by simp [pEnc,z0j,z03,z07,noList_tEnc]
theorem encs_depth:∀ g:Gr,PyData.depthAll g.encs<=3*g.deep
 | .nil=>by simp [encs,PyData.depthAll,deep]
 | .cons k g m r=>by
  have h1:=encs_depth g
  have h2:=encs_depth r
  simp only [encs,PyData.depthAll,PyData.depth,deep]
  omega
theorem enc_depth (g:Gr):g.enc.depth<=3*g.deep+1:=by
 have:=encs_depth g
 simp only [enc,PyData.depth]
 omega
theorem tEnc_depth (t:Tr):(tEnc t).depth<=3*t.2.deep+2:=by
 have:=enc_depth t.2
 simp only [tEnc,PyData.depth,PyData.depthAll]; omega
theorem pEnc_depth (p:Tr × Int):(pEnc p).depth<=3*p.1.2.deep+3:=by
 have:=tEnc_depth p.1
 simp only [pEnc,z0j,PyData.depth,PyData.depthAll]; omega
def Ok (C:Int):Gr->Prop
 | .nil=>True
 | .cons k g m r=>z02 k/\g.Ok C/\1<=m/\m < C/\r.Ok C/\∀ p ∈ r.ps,dataLt (tEnc (k,g)) (tEnc p.1)=true
theorem Ok.mono {B C:Int} (h:B<=C):∀ {g:Gr},g.Ok B->g.Ok C
 | .nil,_=>trivial
 | .cons k g m r,⟨h0,h1,h2,h3,h4,h5⟩=>⟨h0,Ok.mono h h1,h2,by omega,Ok.mono h h4,h5⟩
theorem ok_ps {C:Int}:∀ {bs:List (Tr × Int)},(ofPs bs).Ok C ↔ (∀ p ∈ bs,z02 p.1.1/\p.1.2.Ok C/\1<=p.2/\p.2 < C)/\bs.Pairwise (fun p q=>dataLt (tEnc p.1) (tEnc q.1)=true)
 | []=>by simp [ofPs,Ok]
 | x::r=>by
  have ih:=ok_ps (C:=C) (bs:=r)
  show (z02 x.1.1/\x.1.2.Ok C/\1<=x.2/\x.2 < C/\(ofPs r).Ok C/\∀ p ∈ (ofPs r).ps,dataLt (tEnc x.1) (tEnc p.1)=true) ↔ _
  rw [ps_ofPs,List.pairwise_cons,ih]
  constructor
  ·rintro ⟨h0,h1,h2,h3,⟨h4,h5⟩,h6⟩
   refine ⟨fun p hp=>?_,h6,h5⟩
   rcases List.mem_cons.mp hp with hp | hp
   ·subst hp; exact ⟨h0,h1,h2,h3⟩
   ·exact h4 p hp
  ·rintro ⟨h1,h2,h3⟩
   have h4:=h1 x (mcs ..)
   exact ⟨h4.1,h4.2.1,h4.2.2.1,h4.2.2.2,⟨fun p hp=>h1 p (mcm _ hp),h3⟩,h2⟩
theorem ok_iff {C:Int} {g:Gr}:g.Ok C ↔ (∀ p ∈ g.ps,z02 p.1.1/\p.1.2.Ok C/\1<=p.2/\p.2 < C)/\g.ps.Pairwise (fun p q=>dataLt (tEnc p.1) (tEnc q.1)=true):=by
 have:=ok_ps (C:=C) (bs:=g.ps)
 rw [ofPs_ps] at this
 exact this
theorem strOk_name {k:Str} (h:z02 k):PySem.PyData.strOk k=true:=by
 show k.cps.all (· < 0x110000)=true
 rw [Array.all_eq_true']
 intro c hc
 have:=h.2.2 c (by simpa using hc)
 simp; omega
theorem lays {C:Int}:∀ {g:Gr},g.Ok C->PyData.canLayAll0 g.encs=true
 | .nil,_=>by simp [encs,PyData.canLayAll0]
 | .cons k g m r,⟨h0,h1,_,_,h4,_⟩=>by
  have e1:=lays h1
  have e2:=lays h4
  simp [encs,PyData.canLayAll0,PyData.canLay0,e1,e2,strOk_name h0]
theorem shaped_tEnc {C:Int} {t:Tr} (h0:z02 t.1) (h:t.2.Ok C) (hd:t.2.deep<=20):SeqAt.shaped (tEnc t)=true:=by
 have:=tEnc_depth t
 unfold SeqAt.shaped
 rw [show (tEnc t).canLay0=true by simp [tEnc,PyData.canLay0,PyData.canLayAll0,strOk_name h0,enc,lays h]]
 simp; omega
theorem pEnc_all (bs:List (Tr × Int)):AllAlike (bs.map pEnc):=AllAlike.of fun a b=>Orderly.al (enc:=pEnc) a b
theorem pEnc_sortable (bs:List (Tr × Int)):Sortable (bs.map pEnc):=Sortable.tuples fun b=>⟨_,_,rfl⟩
def tidy (bs:List (Tr × Int)):Gr:=ofPs (tdy tEnc bs)
theorem tidy_parts (bs:List (Tr × Int)):(tidy bs).parts<=tot bs:=by
 unfold tidy
 rw [parts_ofPs]
 have h1:=tot_jn (srtE (z0j tEnc) bs)
 rw [tot_perm (z0r bs)] at h1
 exact h1
theorem tidy_deep {n:Nat} {bs:List (Tr × Int)} (h:∀ p ∈ bs,p.1.2.deep < n):(tidy bs).deep<=n:=by
 refine deep_le fun p hp=>?_
 unfold tidy at hp
 rw [ps_ofPs] at hp
 obtain ⟨q,hq,e⟩:=z2i bs p hp
 rw [<- e]; exact h q hq
theorem tidy_ok {C D:Int} {bs:List (Tr × Int)} (h:∀ p ∈ bs,z02 p.1.1/\p.1.2.Ok C/\1<=p.2) (hD:allE bs < D) (hCD:C<=D):(tidy bs).Ok D:=by
 unfold tidy
 rw [ok_ps]
 refine ⟨fun p hp=>?_,z9g bs⟩
 obtain ⟨q,hq,e⟩:=z2i bs p hp
 have hq2:=h q hq
 obtain ⟨h1,h2⟩:=za3 (enc:=tEnc) (fun p hp=>(h p hp).2.2) p hp
 rw [<- e]
 exact ⟨hq2.1,hq2.2.1.mono hCD,h1,by omega⟩
end Gr
def GA (K:PySem.W.Frag) (H:Hp) (v:V) (g:Gr):Prop:=Dp K H v g.enc
section
variable {K:PySem.W.Frag} {ps:List Addr} {H H':Hp} {v:V} {g:Gr}
theorem GA.sb (h:GA K H v g) (e:SB ps H H'):GA K H' v g:=z01 e _ _ g.noList_enc h
theorem z0i (h:GA K H v g):∃ a xs,v=.ref a/\SqT K H a xs/\Bears K H Gr.pEnc xs g.ps:=by
 have h':Dp K H v (.tuple g.encs):=h
 cases h' with
 | tup hs ha =>
  rw [Gr.encs_ps] at ha
  exact ⟨_,_,rfl,hs,Bears.of ha⟩
theorem z2n {a:Addr} {xs:List V} {bs:List (Tr × Int)} (h:SqT K H a xs) (hb:Bears K H Gr.pEnc xs bs):GA K H (.ref a) (Gr.ofPs bs):=by
 refine Dp.tup h ?_
 rw [Gr.encs_ps,Gr.ps_ofPs]
 exact hb.dp
theorem zc4 {p:Addr} (h:SqT K H p []):GA K H (.ref p) .nil:=Dp.tup h .nil
theorem z9s {t:Tr} (h:Dp K H v (Gr.tEnc t)):∃ a u,v=.ref a/\SqT K H a [.str t.1,u]/\GA K H u t.2:=by
 cases h with
 | tup hs ha =>
  cases ha with
  | cons h1 h2 =>
   cases h2 with
   | cons h3 h4 =>
    cases h4
    cases h1
    exact ⟨_,_,rfl,hs,h3⟩
theorem z0h {p:Tr × Int} (h:Dp K H v (Gr.pEnc p)):∃ a b u,v=.ref a/\SqT K H a [.ref b,.int p.2]/\SqT K H b [.str p.1.1,u]/\GA K H u p.1.2/\Dp K H (.ref b) (Gr.tEnc p.1):=by
 cases h with
 | tup hs ha =>
  cases ha with
  | cons h1 h2 =>
   cases h2 with
   | cons h3 h4 =>
    cases h4
    cases h3
    obtain ⟨b,u,rfl,hb,hg⟩:=z9s h1
    exact ⟨_,b,u,rfl,hs,hb,hg,h1⟩
end
def Ltr (z:Str) (n:Nat):Prop:=z.cps.toList.length=n/\∀ c ∈ z.cps.toList,97<=c/\c<=122
theorem Ltr.name {z:Str} {n:Nat} (h:Ltr z n) (h1:1<=n) (h8:n<=8):z02 z:=⟨by have:=h.1; omega,by have:=h.1; omega,h.2⟩
theorem Ltr.len {z:Str} {n:Nat} (h:Ltr z n):z.length=n:=by have:=h.1; simpa [Str.length] using this
theorem Ltr.one {c:Nat} (h:97<=c/\c<=122):Ltr ⟨#[c]⟩ 1:=⟨rfl,fun x hx=>by simp at hx; subst hx; exact h⟩
theorem Ltr.append {a b:Str} {n m:Nat} (ha:Ltr a n) (hb:Ltr b m):Ltr (a++b) (n+m):=by
 have e:(a++b).cps.toList=a.cps.toList++b.cps.toList:=by show (a.cps++b.cps).toList=_; simp
 unfold Ltr
 rw [e,List.length_append,ha.1,hb.1]
 refine ⟨rfl,fun c hc=>?_⟩
 rcases List.mem_append.mp hc with hc | hc
 ·exact ha.2 c hc
 ·exact hb.2 c hc
abbrev abc:Str:=Str.ofString "abcdefghijklmnopqrstuvwxyz"
theorem z86:abc.length<=sizeLine:=by decide +kernel
theorem z3x {xs:List Nat} {j:Nat} {c:Nat} (h:xs[j]?=some c):atI xs (j:Int)=some c:=by
 have hj:j < xs.length:=(List.getElem?_eq_some_iff.mp h).1
 unfold atI ixN
 rw [if_pos (by omega),if_pos (by omega)]
 simpa using h
theorem zd7 (ks:List Str) (k:Nat):cutV (ks.map V.str) none (some (k:Int))=(ks.take k).map V.str:=by rw [zac,List.map_take]
def zdc (K:PySem.W.Frag) {β:Type} (enc:β->PyData) (vs:List V) (H:Hp) (Q:VK):Prop:=∃ (a:Addr) (xs:List V) (bs:List β),vs=[V.ref a]/\(SqL K H a xs\/SqT K H a xs)/\Bears K H enc xs bs/\AllAlike (bs.map enc)/\Sortable (bs.map enc)/\bs.length<=10000000/\(∀ b ∈ bs,(enc b).depth<=100) /\
 ∀ (p:Addr) (ys:List V),H p=none->Bears K H enc ys (bs.mergeSort (dataLe false enc))->Q (.ref p) (upd H p (.lst ys))
theorem zb1 {X:Cx} {β:Type} (enc:β->PyData) (hu:X.A.units+110 < cLine):CallR X (.builtin "sorted") (zdc X.K enc):=by
 intro pins s σ H vs us Q I r h
 obtain ⟨a,xs,bs,h1,h2,h3⟩:=h
 rcases h2 with h2 | h2
 ·exact zb8 enc hu pins s σ H vs us Q I r ⟨a,xs,bs,h1,h2,h3⟩
 ·exact zb7 enc hu pins s σ H vs us Q I r ⟨a,xs,bs,h1,h2,h3⟩
namespace Gr
def within:Gr->List (Tr × Int)
 | .nil=>[]
 | .cons k g m r=>((k,g),m)::(g.within++r.within)
theorem within_ps:∀ g:Gr,g.within=g.ps.flatMap fun p=>p::p.1.2.within
 | .nil=>rfl
 | .cons k g m r=>by show ((k,g),m)::(g.within++r.within)=_; rw [within_ps r]; rfl
theorem within_length:∀ g:Gr,g.within.length=g.parts
 | .nil=>rfl
 | .cons k g m r=>by show (g.within++r.within).length+1=1+g.parts+r.parts; rw [List.length_append,within_length g,within_length r]; omega
theorem deep_at:∀ h:Gr,0 < h.deep->∃ p ∈ h.ps,p.1.2.deep+1=h.deep
 | .nil,h=>by simp [deep] at h
 | .cons k g m r,_=>by
  by_cases hr:r.deep<=1+g.deep
  ·exact ⟨((k,g),m),mcs ..,by show g.deep+1=max (1+g.deep) r.deep; omega⟩
  ·obtain ⟨p,hp,e2⟩:=deep_at r (by omega)
   exact ⟨p,mcm _ hp,by show p.1.2.deep+1=max (1+g.deep) r.deep; omega⟩
theorem deep_max (g:Gr) (m:Int) (hm:m ∈ (g.ps.map fun p=>(p.1.2.deep:Int))) (hy:∀ a,a ∈ (g.ps.map fun p=>(p.1.2.deep:Int))->a<=m):(1:Int)+m=(g.deep:Int):=by
 obtain ⟨p,hp,rfl⟩:=List.mem_map.mp hm
 have h1:=g.mem_deep p hp
 obtain ⟨q,hq,e⟩:=g.deep_at (by omega)
 have:=hy _ (List.mem_map.mpr ⟨q,hq,rfl⟩)
 omega
theorem natAbs_lt {x:Int} {n:Nat} (h0:0<=x) (h:x < 2 ^ n):x.natAbs < 2 ^ n:=by
 have h2:((x.natAbs:Nat):Int)=x:=Int.natAbs_of_nonneg h0
 have h3:((2 ^ n:Nat):Int)=(2:Int) ^ n:=by rw [Int.natCast_pow]; rfl
 exact Int.ofNat_lt.mp (by rw [h2,h3]; exact h)
end Gr
def z17 (K:PySem.W.Frag) (n:Nat):Sp:=fun vs H Q _=>∃ (v:V) (g:Gr),vs=[v]/\GA K H v g/\g.deep < n/\g.parts<=200000/\∀ (D:Addr) (us:List V) (H':Hp),SB [] H H'->H D=none->H' D=some (.lst us)->Bears K H' Gr.pEnc us g.within->Q (.ref D) H'
def z4u (K:PySem.W.Frag) (n:Nat):Sp:=fun vs H Q _=>∃ (v:V) (g:Gr),vs=[v]/\GA K H v g/\g.deep < n/\g.parts<=200000/\∀ H',SB [] H H'->Q (.int (g.parts:Nat)) H'
def z1m (K:PySem.W.Frag) (n:Nat):Sp:=fun vs H Q _=>∃ (v:V) (g:Gr),vs=[v]/\GA K H v g/\g.deep < n/\g.parts<=200000/\∀ H',SB [] H H'->Q (.int (g.deep:Nat)) H'
section
variable {P:Program} {w:World} {K:PySem.W.Frag} {mg:Str->Option Value} {base:Heap} {f:Addr} {fd:FuncData}
theorem zcs {ps:List Str} {k:Nat}:FnOk P w K mg base CX0 k f fd ps (z17 K 0):=z0o fun vs H Q E ⟨v,l,_,_,h,_⟩=>by omega
theorem zdm {ps:List Str} {k:Nat}:FnOk P w K mg base CX0 k f fd ps (z1m K 0):=z0o fun vs H Q E ⟨v,l,_,_,h,_⟩=>by omega
end
mutual
def plS:PyData->Bool
 | .int _=>true
 | .str x=>PyData.strOk x
 | .tuple ds=>plSs ds
 | _=>false
def plSs:List PyData->Bool
 | []=>true
 | d::ds=>plS d&&plSs ds
end
mutual
theorem zai:∀ d:PyData,plS d=true->d.canLay0=true
 | .int _,_=>by simp [PyData.canLay0]
 | .str _,h=>by rw [plS] at h; rw [PyData.canLay0]; exact h
 | .tuple ds,h=>by rw [plS] at h; rw [PyData.canLay0]; exact z41 ds h
 | .none,h=>by simp [plS] at h
 | .bool _,h=>by simp [plS] at h
 | .list _,h=>by simp [plS] at h
 | .dict _,h=>by simp [plS] at h
theorem z41:∀ ds:List PyData,plSs ds=true->PyData.canLayAll0 ds=true
 | [],_=>by simp [PyData.canLayAll0]
 | d::ds,h=>by
  rw [plSs,Bool.and_eq_true] at h
  rw [PyData.canLayAll0,zai d h.1,z41 ds h.2]; rfl
end
namespace Gr
def tgt (g k:Gr):Gr:=tidy (g.ps++k.ps)
theorem tgt_ps (g k:Gr):(tgt g k).ps=tdy tEnc (g.ps++k.ps):=ps_ofPs _
theorem tgt_parts (g k:Gr):(tgt g k).parts<=g.parts+k.parts:=by
 have:=tidy_parts (g.ps++k.ps)
 rw [tot_append,tot_ps,tot_ps] at this
 exact this
theorem tgt_deep {n:Nat} {g k:Gr} (hg:g.deep<=n) (hk:k.deep<=n):(tgt g k).deep<=n:=tidy_deep fun p hp=>by
 rcases List.mem_append.mp hp with h | h
 ·have:=g.mem_deep p h; omega
 ·have:=k.mem_deep p h; omega
abbrev S (g:Gr) (t:Tr):Int:=sumE g.ps t
theorem S_tgt (g k:Gr) (t:Tr):S (tgt g k) t=S g t+S k t:=by
 show sumE (tgt g k).ps t=_
 rw [tgt_ps,z8j,z0x]
theorem S_zero {bs:List (Tr × Int)} {t:Tr} (h:∀ p ∈ bs,p.1 ≠ t):sumE bs t=0:=by
 induction bs with
 | nil=>rfl
 | cons p r ih =>
  show (if p.1=t then p.2 else 0)+sumE r t=0
  rw [if_neg (h p (mcs ..)),ih fun q hq=>h q (mcm _ hq)]; rfl
theorem ext_ps:∀ {as bs:List (Tr × Int)},as.Pairwise (fun p q=>dataLt (tEnc p.1) (tEnc q.1)=true)->bs.Pairwise (fun p q=>dataLt (tEnc p.1) (tEnc q.1)=true)->(∀ p ∈ as,1<=p.2)->(∀ p ∈ bs,1<=p.2)->(∀ t,sumE as t=sumE bs t)->as=bs
 | [],[],_,_,_,_,_=>rfl
 | [],b::bs,_,h2,_,p2,h=>by
  have:=h b.1
  have hz:sumE bs b.1=0:=S_zero fun q hq z=>by have:=(List.pairwise_cons.mp h2).1 q hq; rw [z,z16] at this; cases this
  have e:sumE (b::bs) b.1=b.2+sumE bs b.1:=by show (if b.1=b.1 then b.2 else 0)+_=_; rw [if_pos rfl]
  rw [e,hz] at this
  have:=p2 b (mcs ..)
  have z:sumE ([]:List (Tr × Int)) b.1=0:=rfl
  omega
 | a::as,[],h1,_,p1,_,h=>by
  have:=h a.1
  have hz:sumE as a.1=0:=S_zero fun q hq z=>by have:=(List.pairwise_cons.mp h1).1 q hq; rw [z,z16] at this; cases this
  have e:sumE (a::as) a.1=a.2+sumE as a.1:=by show (if a.1=a.1 then a.2 else 0)+_=_; rw [if_pos rfl]
  rw [e,hz] at this
  have:=p1 a (mcs ..)
  have z:sumE ([]:List (Tr × Int)) a.1=0:=rfl
  omega
 | a::as,b::bs,h1,h2,p1,p2,h=>by
  obtain ⟨a1,a2⟩:=List.pairwise_cons.mp h1
  obtain ⟨b1,b2⟩:=List.pairwise_cons.mp h2
  have pa:=p1 a (mcs ..)
  have pb:=p2 b (mcs ..)
  have za:∀ t,(t=a.1\/dataLt (tEnc t) (tEnc a.1)=true)->sumE as t=0:=fun t ht=>S_zero fun q hq z=>by
   have q1:=a1 q hq
   rw [z] at q1
   rcases ht with ht | ht
   ·rw [ht,z16] at q1; cases q1
   ·rw [z3o ht] at q1; cases q1
  have zb:∀ t,(t=b.1\/dataLt (tEnc t) (tEnc b.1)=true)->sumE bs t=0:=fun t ht=>S_zero fun q hq z=>by
   have q1:=b1 q hq
   rw [z] at q1
   rcases ht with ht | ht
   ·rw [ht,z16] at q1; cases q1
   ·rw [z3o ht] at q1; cases q1
  have ea:∀ t,sumE (a::as) t=(if a.1=t then a.2 else 0)+sumE as t:=fun t=>rfl
  have eb:∀ t,sumE (b::bs) t=(if b.1=t then b.2 else 0)+sumE bs t:=fun t=>rfl
  have hab:a.1=b.1:=by
   by_cases e:a.1=b.1
   ·exact e
   ·exfalso
    cases hlt:dataLt (tEnc a.1) (tEnc b.1) with
    | true =>
     have:=h a.1
     rw [ea,eb,if_pos rfl,if_neg (fun z=>e z.symm),za _ (.inl rfl),zb _ (.inr hlt)] at this
     omega
    | false =>
     have hlt2:=z7y (enc:=tEnc) e hlt
     have:=h b.1
     rw [ea,eb,if_pos rfl,if_neg e,zb _ (.inl rfl),za _ (.inr hlt2)] at this
     omega
  have hm:a.2=b.2:=by
   have:=h a.1
   rw [ea,eb,if_pos rfl,if_pos hab.symm,za _ (.inl rfl),zb _ (.inl hab)] at this
   omega
  have he:a=b:=Prod.ext hab hm
  subst he
  rw [ext_ps a2 b2 (fun p hp=>p1 p (mcm _ hp)) (fun p hp=>p2 p (mcm _ hp)) fun t=>by have:=h t; rw [ea,eb] at this; omega]
theorem ext {C D:Int} {g k:Gr} (hg:g.Ok C) (hk:k.Ok D) (h:∀ t,S g t=S k t):g=k:=by
 have h1:=ok_iff.mp hg
 have h2:=ok_iff.mp hk
 have:=ext_ps h1.2 h2.2 (fun p hp=>(h1.1 p hp).2.2.1) (fun p hp=>(h2.1 p hp).2.2.1) h
 rw [<- ofPs_ps g,<- ofPs_ps k,this]
end Gr
theorem z23 {n:Nat} (h:n<=1000000):n < sizeLine:=by
 have:sizeLine=16777216:=sizeLine_eq
 omega
open PySem.Sem in
theorem zbz {v:Value} {o:Obj} {Hh:Heap->Prop} (Bg:Begins v o Hh) :
  Meets (Builtin.«enumerate.__new__» ⟨[.type "enumerate",v],[]⟩) (fun _ R s=>Hh s.heap/\R (.ok (.ret (.ref (s.heap.push o).objs.size))) { s with heap:=(s.heap.push o).push { cls:=.type "enumerate",data:=.fields #[.none,.bool false,.ref s.heap.objs.size,rawInt 0,.none,.none] } }) :=
 .of_wp fun prog w A R s h=>by
  obtain ⟨hp,g,d,tk,os⟩:=s
  obtain ⟨h1,h⟩:=h
  have hsub:=sub_enumerate
  have go:∀ {A2:Around} {E2:Value->Shared->Prop} {Q2:Value->Shared->Prop},Q2 (.ref hp.objs.size) ⟨hp.push o,g,d,tk,os⟩->wpAny (model prog w) A2 (pyIter v) Q2 E2 ⟨hp,g,d,tk,os⟩:=fun z=>Bg.iter prog w _ _ ⟨hp,g,d,tk,os⟩ _ h1 z
  wp_walk using go
  refine wpAny_stack_any fun stk=>wpAny_pure ?_
  split
  ·rename_i cl _ _ _ _ _
   cases (cl == Value.type "enumerate") <;> (wp_walk using go; exact ⟨_,rfl,h⟩)
  ·wp_walk using go; exact ⟨_,rfl,h⟩
section
variable {prog:Program} {w:World} {A:Around} {E:Value->Shared->Prop} {s:Shared}
theorem zam {t:Addr} {items:Array Value} {Q:Value->Shared->Prop} (hT:s.heap.IsTuple t items)
  (h:∀ h2,IsEnum h2 (s.heap.objs.size+1) s.heap.objs.size 0 .none->h2.IsTupleIter s.heap.objs.size t 0->(∀ b ob,s.heap.get? b=some ob->h2.get? b=some ob)->Q (.ref (s.heap.objs.size+1)) { s with heap:=h2 }):wpAny (model prog w) A (call (.type "enumerate") [.ref t]) Q E s:=by
 have Bg:=begins_tuple t items
 refine callType_new F.called_enumerate (by decide) (F.typeCall_enumerate_1 _) (F.newCall_enumerate_1 _) (fun ob=>F.args_object_init_2 ob _) F.entry_enumerate_new (zbz Bg) ⟨hT,?_⟩
 have hz:(s.heap.push { cls:=.type "tuple_iterator",data:=.fields #[.ref t,.int 0 0] }).objs.size=s.heap.objs.size+1:=Heap.size_push ..
 show _/\_
 rw [hz]
 have he:IsEnum ((s.heap.push { cls:=.type "tuple_iterator",data:=.fields #[.ref t,.int 0 0] }).push { cls:=.type "enumerate",data:=.fields #[.none,.bool false,.ref s.heap.objs.size,rawInt 0,.none,.none] }) (s.heap.objs.size+1) s.heap.objs.size 0 .none:=by
  have z:=Heap.get?_push_size (s.heap.push { cls:=.type "tuple_iterator",data:=.fields #[.ref t,.int 0 0] }) (o:={ cls:=.type "enumerate",data:=.fields #[.none,.bool false,.ref s.heap.objs.size,rawInt 0,.none,.none] }) rfl
  rw [hz] at z
  exact z
 exact ⟨⟨_,he,rfl⟩,h _ he ⟨_,Heap.get?_push_of_some _ (Heap.get?_push_size _ rfl),rfl,rfl⟩ fun b ob x=>Heap.get?_push_of_some _ (Heap.get?_push_of_some _ x)⟩
end
def IteT (K:PySem.W.Frag) (a:Addr):It :=
 ⟨fun i H=>∃ (xs:List V) (x:V),SqT K H a xs/\xs[i]?=some x,
  fun i H v H2=>∃ T x,v=.ref T/\H T=none/\H2=upd H T (.tup [.int (i:Nat),x])/\∀ xs,SqT K H a xs->xs[i]?=some x,
  fun i H=>∃ xs:List V,SqT K H a xs/\xs.length=i⟩
theorem zb2 {P:Program} {w:World} {K:PySem.W.Frag} {elts:List Expr} {kk:Nat} {tpos:Pos} (a e it:Addr) (hei:e ≠ it) (hai:a ≠ it) (hea:e ≠ a) :
  Turn P w K (.Tuple elts kk tpos) (IteT K a) [e,it] e (fun i h=>(∃ old,IsEnum h e it ((i:Nat):Int) old)/\h.IsTupleIter it a i) where
 mem:=by simp
 obj:=fun i h st b hb=>by
  obtain ⟨⟨old,he⟩,o,ho,hc,hd⟩:=st
  rcases (show b=e\/b=it by simpa using hb) with z | z
  ·rw [z]; exact ⟨_,he,fun v q=>nomatch q⟩
  ·rw [z]; exact ⟨o,ho,fun v q=>by rw [hd] at q; cases q⟩
 keep:=fun i h h2 st k=>let ⟨⟨old,he⟩,o,ho,r⟩:=st; ⟨⟨old,k e (by simp) _ he⟩,o,k it (by simp) o ho,r⟩
 item:=by
  intro X hP hw hK hc i pins s σ H E I hf st hg
  subst hP hw hK
  obtain ⟨⟨old,he⟩,hit⟩:=st
  obtain ⟨xs,x,hq,hx⟩:=hg
  obtain ⟨its,rv,p,hz⟩:=I.tuple hq
  obtain ⟨u,hu,ru⟩:=rv.get hx
  have hel:e < s.heap.objs.size:=Heap.lt_size he
  have hil:it < s.heap.objs.size:=by obtain ⟨_,z,_⟩:=hit; exact Heap.lt_size z
  have Dr:=Draws.tuple (prog:=X.prog) (w:=X.w) (A:=X.A.in1) (I.ok.hd hc) it a hai its.toArray
  have hlt:i < its.toArray.size:=by
   have:=(List.getElem?_eq_some_iff.mp hu).1
   simpa using this
  refine wpAny_pyNext_enum_itemD Dr he ⟨hit,p⟩ hlt hei (by simp [hei,hea]) fun y h2 tk hy ho hst hT hsz hk=>?_
  have hyu:y=u:=by
   have h3:its[i]?=some y:=by simpa using hy
   rw [hu] at h3; exact (Option.some.inj h3).symm
  subst hyu
  refine ⟨_,rfl,wpAny_letOwnedTupleGo_enum (s:={ s with heap:=h2,toks:=tk+1 }) ho fun h3 he3 sb=>?_⟩
  have hT2:h3.get? s.heap.objs.size=some { cls:=.type "tuple",data:=.seq #[.int i tk,y] }:=(sb.2 _ (Nat.ne_of_gt hel)).trans hT
  have nw:ObjOk X.prog X.w (upd H s.heap.objs.size (.tup [.int (i:Nat),x])) h3 s.heap.objs.size (.tup [.int (i:Nat),x]):=⟨by show 2<=sizeLine; decide,[.int i tk,y],.cons ⟨_,rfl⟩ (.cons ru .nil),⟨_,hT2,rfl,_,rfl⟩⟩
  have I1:Inv X pins σ (upd H s.heap.objs.size (.tup [.int (i:Nat),x])) { s with heap:=h3,toks:=tk+1 }:=I.turnedNew (ch:=[e,it]) (fun b ob hb z=>(sb.2 b (fun y=>hb (by simp [y]))).trans (hk b ob (fun y=>hb (by simp [y])) (fun y=>hb (by simp [y])) z)) hf (Nat.le_refl _) nw
  refine ⟨.ref s.heap.objs.size,_,I1,rfl,⟨_,x,rfl,I.hok.fresh (Nat.le_refl _),rfl,fun ys hy=>by rw [I.tuple_inj hy hq]; exact hx⟩,⟨⟨y,?_⟩,?_⟩,fun b hb=>?_⟩
  ·rw [show ((i+1:Nat):Int)=(i:Int)+1 by omega]; exact he3
  ·obtain ⟨o,ho2,r⟩:=hst.1
   exact ⟨o,(sb.2 it (Ne.symm hei)).trans ho2,r⟩
  ·have hb2:b < s.heap.objs.size:=by
    rcases (show b=e\/b=it by simpa using hb) with z | z
    ·rw [z]; exact hel
    ·rw [z]; exact hil
   rw [upd_ne (Nat.ne_of_lt hb2)]; exact (hf b hb).1
 done:=by
  intro X hP hw hK hc i pins s σ H E I hf st hg
  subst hP hw hK
  obtain ⟨⟨old,he⟩,hit⟩:=st
  obtain ⟨xs,hq,hx⟩:=hg
  obtain ⟨its,rv,p,hz⟩:=I.tuple hq
  obtain ⟨f0,f1,f2,f3,f4,f5⟩:=hf it (by simp)
  have hl:=rv.length
  have ht:s.heap.IsTuple a its.toArray:=p
  have Dr:=Draws.tuple (prog:=X.prog) (w:=X.w) (A:=X.A.in1) (I.ok.hd hc) it a hai its.toArray
  have hn:its.toArray.size=i:=by simp; omega
  refine wpAny_pyNext_enum_endD Dr he ⟨by rw [hn]; exact hit,ht⟩ fun h2 eb=>⟨rfl,I.turned (t':=s.toks) (fun b o hb z=>eb b o hb z) f0 f1 f3 f4 f5⟩
 self:=fun A i s Q E st h=>let ⟨⟨_,he⟩,_⟩:=st; wpAny_pyIter_enum he h
def zio (K:PySem.W.Frag) (te:TE):TI:=fun σ H R=>te σ H fun v H1=>∃ a xs,v=.ref a/\SqT K H1 a xs/\R (IteT K a) H1
theorem z7n {X:Cx} {ex:Expr} {te:TE} {p pos tpos:Pos} {elts:List Expr} {kk:Nat} (hg:Gl X "enumerate") (hm:X.mg "enumerate"=none) (he:PE X ex te) (hs:starEach [ex] X.env=(false,eval ex X.env)::starEach [] X.env:=by rfl) :
  PI X (.Tuple elts kk tpos) (.Call (.Name "enumerate" p) [ex] [] pos) (zio X.K te):=by
 refine ⟨fun pins s σ H R I h=>?_⟩
 refine Call_ (ld_blt I hg hm boot_enumerate (PyProof.Rows.callWith_type1 (args_cons (thn (he.run pins s σ H _ I h) fun u s1 ⟨v,H1,I1,r1,q1⟩=>args_nil ?_) hs) hs rfl))
 obtain ⟨a,xs,ev,hq,q⟩:=q1
 subst ev
 cases r1
 obtain ⟨its,rv,pt,hz⟩:=I1.tuple hq
 have ht:s1.heap.IsTuple a its.toArray:=pt
 have hal:a < s1.heap.objs.size:=by obtain ⟨_,z,_⟩:=ht; exact Heap.lt_size z
 refine zam ht fun h2 he2 hit hk=>wpAny_pyIter_enum he2 ?_
 have I2:Inv X pins σ H1 { s1 with heap:=h2 }:=I1.kept (t':=s1.toks) hk
 refine ⟨s1.heap.objs.size+1,[s1.heap.objs.size+1,s1.heap.objs.size],_,_,H1,rfl,I2,zb2 a (s1.heap.objs.size+1) s1.heap.objs.size (Nat.succ_ne_self _) (Nat.ne_of_lt hal) (Nat.ne_of_gt (Nat.lt_succ_of_lt hal)),⟨⟨.none,he2⟩,hit⟩,fun b hb=>?_,q⟩
 have hle:s1.heap.objs.size<=b:=by
  rcases (show b=s1.heap.objs.size+1\/b=s1.heap.objs.size by simpa using hb) with z | z
  ·rw [z]; exact Nat.le_add_right _ _
  ·rw [z]; exact Nat.le_refl _
 exact I1.fpOk hle (I1.hok.fresh hle)
theorem z4a {K:PySem.W.Frag} {a:Addr} {xs:List V}:Walk (IteT K a) xs.length (fun H=>SqT K H a xs) (YPair (fun i=>some (.int (i:Nat))) (fun i=>xs[i]?)):=by
 refine ⟨fun i _ hi q=>⟨xs,xs[i],q,by simp [hi]⟩,fun _ q=>⟨xs,q,rfl⟩,fun i H v H2 _ q y=>?_⟩
 obtain ⟨T,x,h1,h2,h3,h4⟩:=y
 exact ⟨T,.int (i:Nat),x,h1,h2,h3,rfl,h4 xs q⟩
abbrev Pl:=List Nat
def z0c (p:Pl):List PyData:=p.map fun n:Nat=>.int (n:Int)
def z0d (p:Pl):PyData:=.tuple (z0c p)
theorem z8x:∀ p q:Pl,alikeAll (z0c p) (z0c q)=true
 | [],_=>by simp [z0c,alikeAll]
 | _::_,[]=>by simp [z0c,alikeAll]
 | a::p,b::q=>by
  have:=z8x p q
  show alikeAll (.int a::z0c p) (.int b::z0c q)=true
  simp [alikeAll,alike,this]
theorem z85:∀ p q:Pl,PyData.eqvAll (z0c p) (z0c q)=decide (p=q)
 | [],[]=>by simp [z0c,PyData.eqvAll]
 | [],_::_=>by simp [z0c,PyData.eqvAll]
 | _::_,[]=>by simp [z0c,PyData.eqvAll]
 | a::p,b::q=>by
  have ih:=z85 p q
  show PyData.eqvAll (.int a::z0c p) (.int b::z0c q)=_
  simp only [PyData.eqvAll,PyData.eqv,ih,ib]
  by_cases h:a=b
  ·subst h; simp
  ·have:¬ ((a:Int)=(b:Int)):=by omega
   simp [h,this]
instance:Orderly z0d where
 al a b:=by show alike (.tuple _) (.tuple _)=true; rw [alike]; exact z8x a b
 eq a b:=by show PyData.eqv (.tuple _) (.tuple _)=_; rw [PyData.eqv]; exact z85 a b
theorem z08 (p:Pl):z03 (z0d p)=true:=by
 have:∀ p:Pl,z07 (z0c p)=true:=by
  intro p
  induction p with
  | nil=>simp [z0c,z07]
  | cons a r ih=>show z07 (.int a::z0c r)=true; simp [z07,z03,ih]
 show z03 (.tuple _)=true
 rw [z03]; exact this p
theorem zbi (p:Pl):PyData.depthAll (z0c p)=0:=by
 induction p with
 | nil=>simp [z0c,PyData.depthAll]
 | cons a r ih=>show PyData.depthAll (.int a::z0c r)=0; simp [PyData.depthAll,PyData.depth,ih]
theorem z7j (p:Pl):(z0d p).depth=1:=by show (PyData.tuple _).depth=1; simp [PyData.depth,zbi]
theorem z7h (p:Pl):plSs (z0c p)=true:=by
 induction p with
 | nil=>simp [z0c,plSs]
 | cons a r ih=>show plSs (.int a::z0c r)=true; simp [plSs,plS,ih]
theorem z29 {K:PySem.W.Frag} {H:Hp} {v:V} {p:Pl} (h:Dp K H v (z0d p)):∃ a,v=.ref a/\SqT K H a (p.map fun n:Nat=>V.int (n:Int)):=by
 have key:∀ {p:Pl} {xs:List V},DpAll K H xs (z0c p)->xs=p.map fun n:Nat=>V.int (n:Int):=by
  intro p
  induction p with
  | nil=>intro xs h; cases h; rfl
  | cons a r ih =>
   intro xs h
   cases h with
   | cons h1 h2=>cases h1; rw [ih h2]; rfl
 cases h with
 | tup hs ha=>rw [key ha] at hs; exact ⟨_,rfl,hs⟩
theorem z27 {K:PySem.W.Frag} {H:Hp} {a:Addr} {p:Pl} (h:SqT K H a (p.map fun n:Nat=>V.int (n:Int))):Dp K H (.ref a) (z0d p):=by
 refine Dp.tup h ?_
 have key:∀ p:Pl,DpAll K H (p.map fun n:Nat=>V.int (n:Int)) (z0c p):=by
  intro p
  induction p with
  | nil=>exact .nil
  | cons a r ih=>exact .cons (.int _) ih
 exact key p
namespace Gr
def bp:Gr->Nat->List Pl
 | .nil,_=>[]
 | .cons _ g _ r,i=>(if g=.nil then [[i]] else (g.bp 0).map (i::·))++r.bp (i+1)
theorem bp_len:∀ (g:Gr) (i:Nat),(g.bp i).length<=g.parts
 | .nil,_=>Nat.zero_le _
 | .cons k g m r,i=>by
  have h1:=bp_len g 0
  have h2:=bp_len r (i+1)
  show (_++r.bp (i+1)).length<=1+g.parts+r.parts
  rw [List.length_append]
  split
  ·show 1+_<=_; omega
  ·rw [List.length_map]; omega
end Gr
def Wh (K:PySem.W.Frag) (H:Hp) (v:V) (o:Option Int):Prop:=(∃ i,v=.int i/\o=some i)\/(o=none/\∃ (n:String) (b1 b2:Bool),TyX K H v (.type n)/\kitB n "int"=some b1/\(b1=true->kitB n "bool"=some b2)/\(b1&&!b2)=false)
inductive Whs (K:PySem.W.Frag) (H:Hp):List V->List (Option Int)->Prop where
 | nil:Whs K H [] []
 | cons {v:V} {o:Option Int} {vs:List V} {os:List (Option Int)}:Wh K H v o->Whs K H vs os->Whs K H (v::vs) (o::os)
section
variable {K:PySem.W.Frag} {H H':Hp}
theorem Whs.length:∀ {vs:List V} {os:List (Option Int)},Whs K H vs os->vs.length=os.length
 | _,_,.nil=>rfl
 | _,_,.cons _ h=>congrArg (·+1) h.length
theorem Whs.get:∀ {vs:List V} {os:List (Option Int)},Whs K H vs os->∀ {i:Nat} {v:V},vs[i]?=some v->∃ o,os[i]?=some o/\Wh K H v o
 | _,_,.nil,i,v,e=>by simp at e
 | _,_,.cons (o:=o) h hs,0,v,e=>by
  have:_=v:=Option.some.inj e
  subst this; exact ⟨o,rfl,h⟩
 | _,_,.cons h hs,i+1,v,e=>hs.get (i:=i) e
theorem Wh.sb {v:V} {o:Option Int} (h:Wh K H v o) (e:SB [] H H'):Wh K H' v o:=by
 rcases h with h | ⟨h,n,b1,b2,ty,k⟩
 ·exact .inl h
 ·exact .inr ⟨h,n,b1,b2,z2h e (fun _ _=>nmn) ty,k⟩
theorem Whs.sb (e:SB [] H H'):∀ {vs:List V} {os:List (Option Int)},Whs K H vs os->Whs K H' vs os
 | _,_,.nil=>.nil
 | _,_,.cons h hs=>.cons (h.sb e) (Whs.sb e hs)
def plO (p:Pl):List (Option Int):=p.map fun n:Nat=>some (n:Int)
theorem Whs.pl (K:PySem.W.Frag) (H:Hp):∀ p:Pl,Whs K H (p.map fun n:Nat=>V.int (n:Int)) (plO p)
 | []=>.nil
 | n::r=>.cons (.inl ⟨_,rfl,rfl⟩) (Whs.pl K H r)
end
def stp (g:Gr):Option Int->Option Tr
 | none=>none
 | some n=>if 0<=n then (g.ps[n.toNat]?).map (·.1) else none
def lk:Tr->List (Option Int)->Option Tr
 | t,[]=>some t
 | t,o::r=>(stp t.2 o).bind fun u=>lk u r
theorem z4x:∀ (t:Tr) (as bs:List (Option Int)),lk t (as++bs)=(lk t as).bind fun u=>lk u bs
 | t,[],bs=>rfl
 | t,o::r,bs=>by
  show (stp t.2 o).bind (fun u=>lk u (r++bs))=((stp t.2 o).bind fun u=>lk u r).bind fun u=>lk u bs
  cases stp t.2 o with
  | none=>rfl
  | some u=>exact z4x u r bs
theorem zgt {t:Tr} {os:List (Option Int)} {i:Nat} {o:Option Int} {u:Tr} (h1:lk t (os.take i)=some u) (h2:os[i]?=some o) (h3:stp u.2 o=none):lk t os=none:=by
 have hl:i < os.length:=(List.getElem?_eq_some_iff.mp h2).1
 have e:os=os.take i++o::os.drop (i+1):=by
  have:=List.drop_eq_getElem_cons hl
  rw [(List.getElem?_eq_some_iff.mp h2).2] at this
  rw [<- this,List.take_append_drop]
 rw [e,z4x,h1]
 show (stp u.2 o).bind _=none
 rw [h3]; rfl
theorem zh6 {t:Tr} {os:List (Option Int)} {i:Nat} {o:Option Int} {u x:Tr} (h1:lk t (os.take i)=some u) (h2:os[i]?=some o) (h3:stp u.2 o=some x):lk t (os.take (i+1))=some x:=by
 rw [List.take_add_one,h2,z4x,h1]
 show (stp u.2 o).bind _=some x
 rw [h3]; rfl
def z2o (K:PySem.W.Frag) (C:Addr):Sp:=fun vs H Q E=>∃ (v:V) (g:Gr) (a:Addr) (xs:List V) (os:List (Option Int)),vs=[v,.ref a]/\GA K H v g/\SqT K H a xs/\Whs K H xs os /\
 (∀ t,os ≠ []->lk ("",g) os=some t->∀ (x:V) (H':Hp),SB [] H H'->Dp K H' x (Gr.tEnc t)->Q x H')/\((os=[]\/lk ("",g) os=none)->∀ H',SB [] H H'->E (.ref C) none H')
mutual
inductive Tg (K:PySem.W.Frag) (H:Hp):V->PyData->Prop
 | int (i:Int):Tg K H (.int i) (.int i)
 | str (z:Str):z.length<=1000->Tg K H (.str z) (.str z)
 | tup {a:Addr} {xs:List V} {ds:List PyData}:SqT K H a xs->TgAll K H xs ds->Tg K H (.ref a) (.tuple ds)
 | oth {v:V} {n:String}:TyX K H v (.type n)->kitB n "tuple"=some false->kitB n "str"=some false->(kitB n "int"=some false\/n="bool")->Tg K H v .none
inductive TgAll (K:PySem.W.Frag) (H:Hp):List V->List PyData->Prop
 | nil:TgAll K H [] []
 | cons {v:V} {vs:List V} {d:PyData} {ds:List PyData}:Tg K H v d->TgAll K H vs ds->TgAll K H (v::vs) (d::ds)
end
mutual
def z1z:PyData->PyData
 | .int i=>.int i
 | .tuple ds=>.tuple (z4z ds)
 | _=>.none
def z4z:List PyData->List PyData
 | []=>[]
 | d::r=>z1z d::z4z r
end
theorem z81 (d:PyData):z0u (z1z d)=z0u d:=by cases d <;> simp [z1z,z0u]
section
variable {K:PySem.W.Frag} {H H':Hp}
mutual
theorem Tg.th:∀ {v:V} {d:PyData},Tg K H v d->Th K [] H v (z1z d)
 | _,_,.int i=>by rw [z1z]; exact .int i
 | _,_,.str z _=>by rw [z1z] <;> first | exact .oth (.base (.str z)) (by decide +kernel) (.inl (by decide +kernel)) (fun _ _=>nmn) | simp
 | _,_,.tup hs ha=>by rw [z1z]; exact .tup hs (TgAll.th ha)
 | _,_,.oth ty k1 _ k2=>by rw [z1z] <;> first | exact .oth ty k1 k2 (fun _ _=>nmn) | simp
theorem TgAll.th:∀ {vs:List V} {ds:List PyData},TgAll K H vs ds->z80 K [] H vs (z4z ds)
 | _,_,.nil=>by rw [z4z]; exact .nil
 | _,_,.cons h t=>by rw [z4z]; exact .cons (Tg.th h) (TgAll.th t)
end
mutual
theorem z20 (e:SB [] H H'):∀ {v:V} {d:PyData},Tg K H v d->Tg K H' v d
 | _,_,.int i=>.int i
 | _,_,.str z hz=>.str z hz
 | _,_,.tup hs ha=>.tup (e.sqT hs) (z7e e ha)
 | _,_,.oth ty k0 k1 k2=>.oth (z2h e (fun _ _=>nmn) ty) k0 k1 k2
theorem z7e (e:SB [] H H'):∀ {vs:List V} {ds:List PyData},TgAll K H vs ds->TgAll K H' vs ds
 | _,_,.nil=>.nil
 | _,_,.cons h t=>.cons (z20 e h) (z7e e t)
end
theorem TgAll.length:∀ {vs:List V} {ds:List PyData},TgAll K H vs ds->vs.length=ds.length
 | _,_,.nil=>rfl
 | _,_,.cons _ t=>by rw [List.length_cons,List.length_cons,TgAll.length t]
theorem TgAll.get:∀ {vs:List V} {ds:List PyData} {i:Nat} {v:V},TgAll K H vs ds->vs[i]?=some v->∃ d,ds[i]?=some d/\Tg K H v d
 | _,_,_,_,.nil,e=>by simp at e
 | _,_,0,_,.cons h t,e=>by simp at e; subst e; exact ⟨_,rfl,h⟩
 | _,_,i+1,v,.cons h t,e=>by
  obtain ⟨d,h1,h2⟩:=TgAll.get (i:=i) (v:=v) t (by simpa using e)
  exact ⟨d,by simpa using h1,h2⟩
theorem Tg.ty {v:V} {d:PyData} (h:Tg K H v d):∃ n b,TyX K H v (.type n)/\kitB n "tuple"=some b/\(b=true->∃ a xs ds,v=.ref a/\d=.tuple ds/\SqT K H a xs/\TgAll K H xs ds)/\(b=false->∀ ds,d ≠ .tuple ds):=by
 cases h with
 | int i=>exact ⟨"int",false,.base (.int i),by decide +kernel,fun z=>(nomatch z),fun _ ds z=>nomatch z⟩
 | str z hz=>exact ⟨"str",false,.base (.str z),by decide +kernel,fun z=>(nomatch z),fun _ ds z=>nomatch z⟩
 | tup hs ha=>exact ⟨"tuple",true,(z37 hs),by decide +kernel,fun _=>⟨_,_,_,rfl,rfl,hs,ha⟩,fun z=>(nomatch z)⟩
 | oth ty k1 _ k2=>exact ⟨_,false,ty,k1,fun z=>(nomatch z),fun _ ds z=>nomatch z⟩
theorem Tg.txt {v:V} {d:PyData} (h:Tg K H v d):∃ n b,TyX K H v (.type n)/\kitB n "str"=some b/\(b=true->∃ z,v=.str z/\d=.str z/\z.length<=1000)/\(b=false->∀ z,d ≠ .str z):=by
 cases h with
 | int i=>exact ⟨"int",false,.base (.int i),by decide +kernel,fun z=>(nomatch z),fun _ ds z=>nomatch z⟩
 | str z hz=>exact ⟨"str",true,.base (.str z),by decide +kernel,fun _=>⟨z,rfl,rfl,hz⟩,fun z=>(nomatch z)⟩
 | tup hs ha=>exact ⟨"tuple",false,(z37 hs),by decide +kernel,fun z=>(nomatch z),fun _ ds z=>nomatch z⟩
 | oth ty _ k1 k2=>exact ⟨_,false,ty,k1,fun z=>(nomatch z),fun _ ds z=>nomatch z⟩
end
instance (z:Str):Decidable (z02 z):=inferInstanceAs (Decidable (_/\_/\_))
def z1a:PyData->Bool
 | .str z=>decide (z02 z)
 | _=>false
mutual
def z0a:PyData->Bool
 | .tuple ds=>grPs ds&&z3a (ds.map exp0)
 | _=>false
def grPs:List PyData->Bool
 | []=>true
 | d::ds=>grP d&&grPs ds
def grP:PyData->Bool
 | .tuple ds=>grP2 ds
 | _=>false
def grP2:List PyData->Bool
 | []=>false
 | t::r=>z0l t&&z0y r
def z0l:PyData->Bool
 | .tuple ds=>trD2 ds
 | _=>false
def trD2:List PyData->Bool
 | []=>false
 | k::r=>z1a k&&trD3 r
def trD3:List PyData->Bool
 | []=>false
 | g::r=>z0a g&&r.isEmpty
end
theorem zbq {r:List PyData} (h:z0y r=true):∃ i,r=[.int i]/\(1:Int)<=i:=by
 match r,h with
 | [],h=>simp [z0y] at h
 | .int i::[],h=>simp [z0y,z0u] at h; exact ⟨i,rfl,h⟩
 | .int i::_::_,h=>simp [z0y] at h
 | .none::_,h=>simp [z0y,z0u] at h
 | .bool _::_,h=>simp [z0y,z0u] at h
 | .str _::_,h=>simp [z0y,z0u] at h
 | .list _::_,h=>simp [z0y,z0u] at h
 | .dict _::_,h=>simp [z0y,z0u] at h
 | .tuple _::_,h=>simp [z0y,z0u] at h
theorem z51 {d:PyData} (h:z1a d=true):∃ z,d=.str z/\z02 z:=by
 cases d with
 | str z=>exact ⟨z,rfl,of_decide_eq_true h⟩
 | _=>simp [z1a] at h
mutual
theorem z4v:∀ d:PyData,z0a d=true->∃ g:Gr,d=g.enc
 | .tuple ds,h=>by
  rw [z0a,Bool.and_eq_true] at h
  obtain ⟨g,e⟩:=z77 ds h.1
  exact ⟨g,by rw [e]; rfl⟩
 | .none,h=>by simp [z0a] at h
 | .bool _,h=>by simp [z0a] at h
 | .int _,h=>by simp [z0a] at h
 | .str _,h=>by simp [z0a] at h
 | .list _,h=>by simp [z0a] at h
 | .dict _,h=>by simp [z0a] at h
theorem z77:∀ ds:List PyData,grPs ds=true->∃ g:Gr,ds=g.encs
 | [],_=>⟨.nil,rfl⟩
 | d::ds,h=>by
  rw [grPs,Bool.and_eq_true] at h
  obtain ⟨r,er⟩:=z77 ds h.2
  obtain ⟨t,i,ed,he⟩:=z89 d h.1
  exact ⟨.cons t.1 t.2 i r,by rw [er,ed]; rfl⟩
theorem z89:∀ d:PyData,grP d=true->∃ (t:Tr) (i:Int),d=.tuple [Gr.tEnc t,.int i]/\(1:Int)<=i
 | .tuple ds,h=>by
  rw [grP] at h
  obtain ⟨e,i,ed,he⟩:=zd5 ds h
  exact ⟨e,i,by rw [ed],he⟩
 | .none,h=>by simp [grP] at h
 | .bool _,h=>by simp [grP] at h
 | .int _,h=>by simp [grP] at h
 | .str _,h=>by simp [grP] at h
 | .list _,h=>by simp [grP] at h
 | .dict _,h=>by simp [grP] at h
theorem zd5:∀ ds:List PyData,grP2 ds=true->∃ (t:Tr) (i:Int),ds=[Gr.tEnc t,.int i]/\(1:Int)<=i
 | [],h=>by simp [grP2] at h
 | d::r,h=>by
  rw [grP2,Bool.and_eq_true] at h
  obtain ⟨t,et⟩:=z9d d h.1
  obtain ⟨i,er,hi⟩:=zbq h.2
  exact ⟨t,i,by rw [et,er],hi⟩
theorem z9d:∀ d:PyData,z0l d=true->∃ t:Tr,d=Gr.tEnc t
 | .tuple ds,h=>by
  rw [z0l] at h
  obtain ⟨t,et⟩:=zd4 ds h
  exact ⟨t,by rw [et]; rfl⟩
 | .none,h=>by simp [z0l] at h
 | .bool _,h=>by simp [z0l] at h
 | .int _,h=>by simp [z0l] at h
 | .str _,h=>by simp [z0l] at h
 | .list _,h=>by simp [z0l] at h
 | .dict _,h=>by simp [z0l] at h
theorem zd4:∀ ds:List PyData,trD2 ds=true->∃ t:Tr,ds=[.str t.1,t.2.enc]
 | [],h=>by simp [trD2] at h
 | d::r,h=>by
  rw [trD2,Bool.and_eq_true] at h
  obtain ⟨z,ez,_⟩:=z51 h.1
  obtain ⟨g,eg⟩:=zcw r h.2
  exact ⟨(z,g),by rw [ez,eg]⟩
theorem zcw:∀ ds:List PyData,trD3 ds=true->∃ g:Gr,ds=[g.enc]
 | [],h=>by simp [trD3] at h
 | d::r,h=>by
  rw [trD3,Bool.and_eq_true] at h
  obtain ⟨g,eg⟩:=z4v d h.1
  have:r=[]:=by cases r with | nil=>rfl | cons _ _=>simp at h
  exact ⟨g,by rw [eg,this]⟩
end
section
variable {K:PySem.W.Frag} {H:Hp}
theorem zan {C:Int}:∀ (g:Gr) {vs:List V},g.Ok C->DpAll K H vs g.encs->TgAll K H vs g.encs
 | .nil,vs,_,h=>by cases h; exact .nil
 | .cons k g m r,vs,ho,h=>by
  cases h with
  | cons h1 h2 =>
   refine .cons ?_ (zan r ho.2.2.2.2.1 h2)
   cases h1 with
   | tup hs ha =>
    cases ha with
    | cons h3 h4 =>
     cases h4 with
     | cons h5 h6 =>
      cases h6; cases h5
      refine .tup hs (.cons ?_ (.cons (.int _) .nil))
      cases h3 with
      | tup hs2 hb =>
       cases hb with
       | cons h7 h8 =>
        cases h8 with
        | cons h9 h10 =>
         cases h10; cases h7
         cases h9 with
         | tup hs3 hc=>exact .tup hs2 (.cons (.str _ (by have:=ho.1.2.1; simp [Str.length]; simp at this; omega)) (.cons (.tup hs3 (zan g ho.2.1 hc)) .nil))
theorem z45:∀ (g:Gr) {vs:List V},TgAll K H vs g.encs->DpAll K H vs g.encs
 | .nil,vs,h=>by cases h; exact .nil
 | .cons k g m r,vs,h=>by
  cases h with
  | cons h1 h2 =>
   refine .cons ?_ (z45 r h2)
   cases h1 with
   | tup hs ha =>
    cases ha with
    | cons h3 h4 =>
     cases h4 with
     | cons h5 h6 =>
      cases h6; cases h5
      refine .tup hs (.cons ?_ (.cons (.int _) .nil))
      cases h3 with
      | tup hs2 hb =>
       cases hb with
       | cons h7 h8 =>
        cases h8 with
        | cons h9 h10 =>
         cases h10; cases h7
         cases h9 with
         | tup hs3 hc=>exact .tup hs2 (.cons (.str _) (.cons (.tup hs3 (z45 g hc)) .nil))
end
def z7s (K:PySem.W.Frag):Sp:=fun vs H Q _=>∃ (v:V) (d:PyData),vs=[v]/\Tg K H v d/\∀ H',SB [] H H'->Q (.bl (z1a d)) H'
def z1w (K:PySem.W.Frag) (n:Nat):Sp:=fun vs H Q _=>∃ (v:V) (d:PyData),vs=[v]/\Tg K H v d/\d.depth < n/\d.depth<=80/\wide d<=1000/\∀ H',SB [] H H'->Q (.bl (z0l d)) H'
def z1e (K:PySem.W.Frag) (n:Nat):Sp:=fun vs H Q _=>∃ (v:V) (d:PyData),vs=[v]/\Tg K H v d/\d.depth < n/\d.depth<=80/\wide d<=1000/\∀ H',SB [] H H'->Q (.bl (z0a d)) H'
def z1q (K:PySem.W.Frag) (tp:Bool) (n:Nat):Sp:=fun vs H Q _=>∃ (a:Addr) (xs:List V) (ds:List PyData),vs=[.ref a]/\(if tp=true then SqT K H a xs else SqL K H a xs)/\TgAll K H xs ds/\PyData.depthAll ds < n/\PyData.depthAll ds<=79/\wide (.tuple ds)<=1000/\∀ H',SB [] H H'->Q (.bl (grPs ds)) H'
def z8e (K:PySem.W.Frag):Sp:=fun vs H Q _=>∃ (z y:Str) (k:Nat),vs=[.str z,.int (k:Int),.str y]/\z.length<=100000/\k<=z.length/\∀ e:Nat,k<=e->e<=z.length->(∀ j c,k<=j->j < e->z.cps.toList[j]?=some c->c ∈ y.cps.toList)->(∀ c,z.cps.toList[e]?=some c->c ∉ y.cps.toList)->Q (.str (cutS z (some (k:Int)) (some (e:Int)))) H
theorem za5 (c:Nat):c ∈ abc.cps.toList ↔ 97<=c/\c<=122:=by
 have e:abc.cps.toList=(List.range 26).map (·+97):=by decide +kernel
 rw [e,List.mem_map]
 constructor
 ·rintro ⟨x,hx,rfl⟩
  have:=List.mem_range.mp hx
  omega
 ·intro h
  exact ⟨c-97,List.mem_range.mpr (by omega),by omega⟩
theorem z6k (z:Str):z.cps.toList.length=z.length:=by simp [Str.length]
theorem cut0 (z:Str) {e:Nat} (he:e<=z.length):(cutS z (some ((0:Nat):Int)) (some (e:Int))).cps.toList=z.cps.toList.take e:=by
 unfold cutS
 rw [HT.sIx_nat,HT.sIx_nat]
 simp [Nat.min_eq_left he]
theorem zdg {z:Str} {e:Nat} (h1:1<=z.length) (h8:z.length<=8) (he:e<=z.length) (hin:∀ j c,0<=j->j < e->z.cps.toList[j]?=some c->c ∈ abc.cps.toList) (hout:∀ c,z.cps.toList[e]?=some c->c ∉ abc.cps.toList) :
  decide (V.str (cutS z (some ((0:Nat):Int)) (some (e:Int)))=V.str z)=z1a (.str z):=by
 have hl:=z6k z
 rw [Bool.eq_iff_iff,decide_eq_true_iff,z1a,decide_eq_true_iff]
 constructor
 ·intro h
  injection h with h
  have h2:=cut0 z he
  rw [h] at h2
  have h3:z.cps.toList.length=min e z.cps.toList.length:=by
   have:=congrArg List.length h2
   rwa [List.length_take] at this
  refine ⟨by omega,by omega,fun c hc=>?_⟩
  obtain ⟨j,hj⟩:=List.mem_iff_getElem?.mp hc
  have hj2:=(List.getElem?_eq_some_iff.mp hj).1
  exact (za5 c).mp (hin j c (Nat.zero_le _) (by omega) hj)
 ·rintro ⟨_,_,hall⟩
  have e1:e=z.length:=by
   rcases Nat.lt_or_ge e z.length with h | h
   ·obtain ⟨c,hc⟩:∃ c,z.cps.toList[e]?=some c:=⟨_,List.getElem?_eq_getElem (by omega)⟩
    exact absurd ((za5 c).mpr (hall c (List.mem_of_getElem? hc))) (hout c hc)
   ·omega
  have h2:=cut0 z he
  rw [e1,<- hl,List.take_length] at h2
  congr 1
  have h3:∀ a b:Str,a.cps.toList=b.cps.toList->a=b:=by
   intro a b hab
   cases a; cases b
   congr 1
   exact Array.toList_inj.mp hab
  rw [e1,<- hl]
  exact h3 _ _ h2
theorem z92 {z:Str} (h:¬ (1<=z.length/\z.length<=8)):z1a (.str z)=false:=by
 have hl:=z6k z
 rw [z1a]
 exact decide_eq_false fun ⟨h1,h2,_⟩=>h ⟨by omega,by omega⟩
theorem z9u {z:Str} (h:z02 z):z1a (.str z)=true:=decide_eq_true h
theorem zcq {t:Tr} (h0:z02 t.1) (h:z0a t.2.enc=true):z0l (Gr.tEnc t)=true:=by
 rw [Gr.tEnc,z0l,trD2,trD3,z9u h0,h]; rfl
theorem zk6 {t:Tr} {m:Int} (h0:z02 t.1) (h:z0a t.2.enc=true) (hm:1<=m):grP (Gr.pEnc (t,m))=true:=by
 show grP (.tuple [Gr.tEnc t,.int m])=true
 rw [grP,grP2,z0y,zcq h0 h]
 simp [z0u,hm]
theorem z31 {C:Int}:∀ {g:Gr},g.Ok C->z0a g.enc=true
 | .nil,_=>by decide +kernel
 | .cons k g m r,⟨h0,h1,h2,h3,h4,h5⟩=>by
  have a1:=z31 h1
  have a2:=z31 h4
  rw [Gr.enc,z0a,Bool.and_eq_true] at a2
  have hp:grP (Gr.pEnc ((k,g),m))=true:=zk6 h0 a1 h2
  have e:(Gr.cons k g m r).encs=Gr.pEnc ((k,g),m)::r.encs:=rfl
  rw [Gr.enc,z0a,e,grPs,hp,a2.1,Bool.true_and,Bool.true_and,List.map_cons]
  cases r with
  | nil=>rfl
  | cons k2 g2 m2 r2 =>
   have hlt:dataLt (Gr.tEnc (k,g)) (Gr.tEnc (k2,g2))=true:=h5 ((k2,g2),m2) (mcs ..)
   have e2:(Gr.cons k2 g2 m2 r2).encs=Gr.pEnc ((k2,g2),m2)::r2.encs:=rfl
   have a3:=a2.2
   rw [e2,List.map_cons] at a3 ⊢
   show (dataLt (Gr.tEnc (k,g)) (Gr.tEnc (k2,g2))::ltsD _).all id=true
   rw [List.all_cons,show id (dataLt (Gr.tEnc (k,g)) (Gr.tEnc (k2,g2)))=true from hlt,Bool.true_and]
   exact a3
theorem z3w:∀ g:Gr,z14 g.encs<=2+g.parts/\g.encs.length<=g.parts
 | .nil=>⟨by show z14 []<=_; rw [z14]; omega,Nat.le_refl _⟩
 | .cons k g m r=>by
  obtain ⟨h1,h2⟩:=z3w g
  obtain ⟨h3,h4⟩:=z3w r
  have e:(Gr.cons k g m r).encs=Gr.pEnc ((k,g),m)::r.encs:=rfl
  have e2:wide (Gr.pEnc ((k,g),m))<=2+g.parts:=by
   show wide (.tuple [.tuple [.str k,.tuple g.encs],.int m])<=_
   simp only [wide,z14,List.length_cons,List.length_nil]
   omega
  rw [e,z14,List.length_cons]
  show _<=2+(1+g.parts+r.parts)/\_<=1+g.parts+r.parts
  omega
section
variable {K:PySem.W.Frag} {H:Hp} {C:Int}
theorem z9l {g:Gr} {v:V} (ho:g.Ok C) (h:GA K H v g):Tg K H v g.enc:=by
 cases (h:Dp K H v (.tuple g.encs)) with
 | tup hs ha=>exact .tup hs (zan g ho ha)
theorem zb6 {z:Str} (h:z02 z):z.length<=1000:=by
 have:=h.2.1
 rw [z6k] at this
 omega
end
theorem zgn {α:Type} {xs:List α} {v:α} (h:xs[xs.length-1]?=some v):atI xs (-1)=some v:=by
 rcases List.eq_nil_or_concat xs with e | ⟨ys,u,e⟩
 ·subst e; simp at h
 ·rw [List.concat_eq_append] at e
  subst e
  have:u=v:=by simpa using h
  subst this
  exact atI_last ys u
theorem SB.setD {H:Hp} {p:Addr} {kvs:List (Key × V)} {ps:List Addr} (h:H p=some (.dK kvs)) (hp:p ∈ ps) (o:HO):SB ps H (upd H p o):=by
 refine ⟨fun b u e n=>?_,fun b u e=>?_,fun b v u e=>?_,fun b e=>?_⟩
 ·rw [upd_ne (fun (z:b=p)=>n (by rw [z]; exact hp))]; exact e
 ·rw [upd_ne (fun (z:b=p)=>by subst z; rw [h] at e; cases e)]; exact e
 ·rw [upd_ne (fun (z:b=p)=>by subst z; rw [h] at e; cases e)]; exact e
 ·by_cases q:b=p
  ·subst q; rw [upd_same] at e; cases e
  ·rw [upd_ne q] at e; exact e
def met (xs:List Str):Nat->List Str
 | 0=>[]
 | i+1=>if (met xs i).any (· == xs.getD i Str.empty)=true then met xs i else met xs i++[xs.getD i Str.empty]
theorem z84 (xs:List Str):∀ i,(met xs i).length<=i
 | 0=>Nat.le_refl _
 | i+1=>by
  have:=z84 xs i
  unfold met
  split
  ·omega
  ·rw [List.length_append]; simp; omega
theorem zh4 (xs:List Str) (i:Nat) (k:Str):(met xs (i+1)).any (· == k)=((met xs i).any (· == k) || decide (k=xs.getD i Str.empty)):=by
 rw [met]
 by_cases e:k=xs.getD i Str.empty
 ·subst e
  split
  ·rename_i h; rw [h]; simp
  ·simp
 ·rw [decide_eq_false e,Bool.or_false]
  split
  ·rfl
  ·rw [List.any_append]
   have:([xs.getD i Str.empty].any (· == k))=false:=by
    simp only [List.any_cons,List.any_nil,Bool.or_false,beq_eq_false_iff_ne]
    exact fun z=>e z.symm
   rw [this,Bool.or_false]
theorem zgg (xs:List Str) (i:Nat):(met xs (i+1)).length=if (met xs i).any (· == xs.getD i Str.empty)=true then (met xs i).length else (met xs i).length+1:=by
 rw [met]; split <;> simp
abbrev SetOfS (P:Program) (w:World) (h:Heap) (a:Addr) (L:List Str):Prop:=h.SetOf (PySem.strKind P w) a (fun k=>L.any (· == k)) L.length
theorem SetOfS.keep {P:Program} {w:World} {h h':Heap} {a:Addr} {L:List Str} (S:SetOfS P w h a L) (k:∀ o,h.get? a=some o->h'.get? a=some o):SetOfS P w h' a L:=by
 obtain ⟨o,es,ep,t,ho,r⟩:=S; exact ⟨o,es,ep,t,k o ho,r⟩
section
variable {P:Program} {w:World} {A:Around}
theorem zdl {R:Result->Shared->Prop} {I:Addr} {fp wr:List Addr} {G:Array GenState->Array GenState->Prop} {n:Nat} {Pv:Nat->Value->Prop} {St:Nat->Shared->Prop} (W:WalksS P w A.in1 I fp wr G n Pv St) (S:Addr) (hSf:S ∉ fp) (xs:List Str) (hn:n+1 < scanBound)
  (hval:∀ i v,Pv i v->∃ t,v=.str (xs.getD i Str.empty) t):∀ (k i:Nat) (s:Shared),k+i=n->St i s->SetOfS P w s.heap S (met xs i) ->
   (∀ s',Moved (S::wr) G s s'->SetOfS P w s'.heap S (met xs n)->R (.ok (.ret .none)) s')->codeAny (model P w) A (.builtin "set.update.loop" ⟨[.ref S,.ref I],[]⟩) R s:=by
 have out:S ∉ wr:=fun z=>hSf (W.sub _ z)
 have up:∀ b ∈ wr,b ∈ S::wr:=fun b z=>mcm _ z
 intro k
 induction k with
 | zero =>
  intro i s e st hS hR
  rw [Nat.zero_add] at e; subst e
  refine codeAny_builtin F.entry_set_update_loop (by
   rw [Around.under_plainId F.plain_set_update_loop _]
   show wpAny _ A.in1 (pyNext (.ref I) >>= _) _ _ s
   refine wpAny_bind (W.done s _ _ st fun s' hm=>?_)
   show wpAny _ A.in1 (ret Value.none) _ _ s'
   exact wpAny_pure (hR s' (hm.mono up) (hS.keep fun o e=>hm.heap S o out e)))
 | succ k ih =>
  intro i s e st hS hR
  have lt:i < n:=by omega
  refine codeAny_builtin F.entry_set_update_loop (by
   rw [Around.under_plainId F.plain_set_update_loop _]
   show wpAny _ A.in1 (pyNext (.ref I) >>= _) _ _ s
   refine wpAny_bind (W.item i s _ _ lt st fun v s' hP st' hm=>?_)
   obtain ⟨t,rfl⟩:=hval i v hP
   have hS':SetOfS P w s'.heap S (met xs i):=hS.keep fun o e=>hm.heap S o out e
   show wpAny _ A.in1 (holding [Value.str (xs.getD i Str.empty) t] (setAdd S (.str (xs.getD i Str.empty) t)) >>= _) _ _ s'
   refine wpAny_bind (wpAny_holding ?_)
   unfold setAdd
   refine wpAny_holding (wpAny_bind ((PySem.strKind P w).pyHash (k:=xs.getD i Str.empty) (PySem.Froz.is_str _ _) ?_))
   have room:(met xs i).length+1 < scanBound:=by have:=z84 xs i; omega
   refine wpAny_setAddHashed_of (knd:=PySem.strKind P w) (s:={ s' with toks:=s'.toks+1 }) (PySem.Froz.is_str _ _) rfl hS' room fun h' hsb hS2=>?_
   have hSi:SetOfS P w h' S (met xs (i+1)):=SetOf_congr hS2 (fun k'=>(zh4 xs i k').symm) (zgg xs i).symm
   refine wpAny_pure ⟨plainId_quiet F.plain_set_update_loop _,ih (i+1) _ (by omega) (W.frame _ s' _ _ st' (Nat.le_succ _) fun b hb o e=>?_) hSi fun s'' hm'' hS''=>?_⟩
   ·rw [hsb.2 b fun z:b=S=>hSf (z ▸ hb)]; exact e
   ·refine hR s'' (Moved.trans W.gtrans ((hm.mono up).then_heap (Nat.le_succ _) fun b o hb e=>?_) hm'') hS''
    rw [hsb.2 b fun z:b=S=>hb (z ▸ mcs)]; exact e)
abbrev eo (led:Bool):Obj:={ cls:=.type "set",dict:=none,data:=.set #[] 0 (.fresh 0 0 led) }
set_option maxHeartbeats 8000000 in
theorem zc3 {E:Value->Shared->Prop} {s:Shared} {l:Addr} {its:Array Value} {xs:List Str} {Q:Value->Shared->Prop} (hh:A.handled=none) (hl:s.heap.IsList l its) (hi:StrsAre its.toList xs) (hb:its.size+1 < scanBound)
  (h:∀ (h':Heap) (tk:Nat),SetOfS P w h' s.heap.objs.size (met xs its.size)->(∀ b o,b < s.heap.objs.size->s.heap.get? b=some o->h'.get? b=some o)->Q (.ref s.heap.objs.size) { s with heap:=h',toks:=tk }) :
  wpAny (model P w) A (call (.type "set") [.ref l]) Q E s:=by
 obtain ⟨c,tl',hmro⟩:=PySem.F.called_set.mro
 have k1:=PySem.F.called_set.made; have k2:=PySem.F.called_set.sub
 refine wpAny_call (codeAny_of_tree (by
  show wpAny _ _ (callAny (.type "set") _) _ _ _
  refine wpAny_pure ⟨Code.quiet_builtin _ (by decide +kernel),codeAny_builtin PySem.F.entry_type_call ?_⟩
  rw [Around.under_plain (weight_type_call_type "set" [.ref l] []) rfl]
  have k3:=PySem.F.called_set.notType; have k4:=PySem.F.called_set.canCreate; have k5:=PySem.F.typeCall_set_1 (.ref l)
  repeat (any_goals (first | assumption | wp_step))
  refine codeAny_mono (code_set_new_1 (.ref l) (E:=E) (Q₁:=fun ob z=>∃ led:Bool,ob=.ref s.heap.objs.size/\z={ s with heap:=s.heap.push (eo led) }) fun led=>⟨led,rfl,rfl⟩) fun r z hr=>?_
  cases r with
  | error e=>exact hr
  | ok fl =>
  cases fl with
  | ret ob =>
   obtain ⟨led,rfl,rfl⟩:=hr
   have at0:(s.heap.push (eo led)).get? s.heap.objs.size=some (eo led):=Heap.get?_push_size _ rfl
   have ty0:Shared.TypeIs { s with heap:=s.heap.push (eo led) } (.ref s.heap.objs.size) "set":=⟨_,at0,rfl⟩
   have k6:=PySem.F.called_set.init.lookup; have k7:=PySem.F.called_set.init.bind (.ref s.heap.objs.size)
   repeat (any_goals (first | assumption | wp_step))
   refine codeAny_mono (codeAny_call_builtin (R:=wants (fun r s₂=>r=.none/\∃ h' tk,s₂={ s with heap:=h',toks:=tk }/\SetOfS P w h' s.heap.objs.size (met xs its.size)/\(∀ b o,b < s.heap.objs.size->s.heap.get? b=some o->h'.get? b=some o)) E) PySem.F.called_set.init.plain PySem.F.entry_set_init (check_set_init_1 ty0 ?_)) fun r₂ s₂ hr₂=>?_
   ·obtain ⟨⟨oc,od,oda,osl⟩,hol,hcl,nl,hdl⟩:=hl
    simp only at hcl hdl
    subst hcl hdl
    have hol':(s.heap.push (eo led)).get? l=some ⟨.type "list",od,.seq its nl,osl⟩:=Heap.get?_push_of_some _ hol
    have k8:=PySem.F.sub_list_set; have k9:=PySem.F.sub_list_frozenset
    have k10:(Value.type "list" == Value.type "dict")=false:=by decide
    have isl:(s.heap.push (eo led)).IsList l its:=⟨_,hol',rfl,nl,rfl⟩
    unfold Builtin.«set.__init__» noKeywords Builtin.Frozenset.updateFrom
    generalize hPI:pyIter=PI
    wp_walk
    subst hPI
    refine wpAny_pyIter_list isl (wpAny_bind (wpAny_runValue ?_))
    have ltl:l < s.heap.objs.size:=Heap.lt_size hol
    have sz1:(s.heap.push (eo led)).objs.size=s.heap.objs.size+1:=Heap.size_push ..
    have lne:l ≠ (s.heap.push (eo led)).objs.size:=Nat.ne_of_lt (sz1 ▸ Nat.lt_succ_of_lt ltl)
    have nin:s.heap.objs.size ∉ [(s.heap.push (eo led)).objs.size,l]:=by
     intro z
     rcases List.mem_cons.mp z with z | z
     ·exact absurd (z.trans sz1) (Nat.ne_of_lt (Nat.lt_succ_self _))
     ·have:s.heap.objs.size=l:=by simpa using z
      exact absurd this.symm (Nat.ne_of_lt ltl)
    refine zdl ((Walks.list (show A.in1.in1.in1.handled=none by simp [hh]) _ l lne its).toS) s.heap.objs.size nin xs hb (fun i v hv=>SS.strs_at hi i v (by rw [Array.getElem?_toList]; exact hv)) its.size 0 _ rfl ⟨⟨_,Heap.get?_push_size _ rfl,rfl,rfl⟩,isl.push _⟩ ?c1 ?c2
    case c1=>exact SetOf_congr ((setObjOf_fresh (knd:=PySem.strKind P w) led).setOf (Heap.get?_push_of_some _ at0) (by unfold scanBound; omega)) (fun _=>rfl) rfl
    case c2 =>
     rintro ⟨h',g',d',tk',os'⟩ hm hS'
     have eg:g'=s.gens:=hm.gens; have ed:d'=s.drawn:=hm.drawn; have eo':os'=s.os:=hm.os
     subst eg ed eo'
     show wpAny _ _ _ _ _ _
     refine wpAny_pure (show wpAny _ _ (ret Value.none) _ _ _ from wpAny_pure ⟨rfl,h',tk',rfl,hS',fun b o hb' e=>hm.heap b o (fun z=>?_) (Heap.get?_push_of_some _ (Heap.get?_push_of_some _ e))⟩)
     rcases List.mem_cons.mp z with z | z
     ·exact absurd z (Nat.ne_of_lt hb')
     ·have:b=(s.heap.push (eo led)).objs.size:=by simpa using z
      exact absurd (this.trans sz1) (Nat.ne_of_lt (Nat.lt_succ_of_lt hb'))
   ·cases r₂ with
    | error e=>exact hr₂
    | ok fl₂ =>
    cases fl₂ with
    | ret r =>
     obtain ⟨rfl,h',tk,rfl,hS',hk'⟩:=hr₂
     repeat (any_goals (first | assumption | wp_step))
     exact h _ _ hS' hk'
    | _=>exact hr₂.elim
  | _=>exact hr.elim))
end
theorem z8a (xs:List Str):∀ (i:Nat) (k:Str),k ∈ met xs i ↔ ∃ j,j < i/\xs.getD j Str.empty=k
 | 0,k=>by simp [met]
 | i+1,k=>by
  rw [met]
  have ih:=z8a xs i k
  split
  ·rename_i h
   rw [ih]
   refine ⟨fun ⟨j,a,b⟩=>⟨j,by omega,b⟩,fun ⟨j,a,b⟩=>?_⟩
   by_cases e:j=i
   ·subst e
    obtain ⟨y,hy,he⟩:=List.any_eq_true.mp h
    have:=(z8a xs j y).mp hy
    rw [beq_iff_eq.mp he,b] at this
    exact this
   ·exact ⟨j,by omega,b⟩
  ·rw [List.mem_append,ih]
   refine ⟨fun z=>?_,fun ⟨j,a,b⟩=>?_⟩
   ·rcases z with ⟨j,a,b⟩ | z
    ·exact ⟨j,by omega,b⟩
    ·exact ⟨i,by omega,(List.mem_singleton.mp z).symm⟩
   ·by_cases e:j=i
    ·subst e; exact .inr (List.mem_singleton.mpr b.symm)
    ·exact .inl ⟨j,by omega,b⟩
theorem z2u (xs:List Str):∀ i,(met xs i).Nodup
 | 0=>List.nodup_nil
 | i+1=>by
  rw [met]
  split
  ·exact z2u xs i
  ·rename_i h
   refine List.nodup_append.mpr ⟨z2u xs i,by simp,fun a ha b hb e=>h ?_⟩
   rw [List.mem_singleton.mp hb] at e
   exact List.any_eq_true.mpr ⟨a,ha,beq_iff_eq.mpr e⟩
theorem zgf (xs:List Str) (k:Str):k ∈ met xs xs.length ↔ k ∈ xs:=by
 rw [z8a]
 refine ⟨fun ⟨j,a,b⟩=>?_,fun h=>?_⟩
 ·rw [<- b,List.getD_eq_getElem?_getD,List.getElem?_eq_getElem a]; exact List.getElem_mem a
 ·obtain ⟨j,a,b⟩:=List.getElem_of_mem h
  exact ⟨j,a,by rw [List.getD_eq_getElem?_getD,List.getElem?_eq_getElem a]; exact b⟩
theorem z9r (xs:List Str):∀ i,i<=xs.length->(met xs i).length=i->met xs i=xs.take i
 | 0,_,_=>by simp [met]
 | i+1,hi,h=>by
  have hl:=z84 xs i
  rw [met] at h ⊢
  split at h
  ·omega
  ·rename_i hn
   rw [if_neg hn]
   rw [List.length_append,List.length_singleton] at h
   rw [z9r xs i (by omega) (by omega),List.take_add_one,List.getD_eq_getElem?_getD,List.getElem?_eq_getElem (by omega)]
   rfl
theorem z8z (xs:List Str):(met xs xs.length).length=xs.length ↔ xs.Nodup:=by
 constructor
 ·intro h
  have e:=z9r xs xs.length (Nat.le_refl _) h
  rw [List.take_length] at e
  rw [<- e]; exact z2u xs _
 ·intro h
  exact ((List.perm_ext_iff_of_nodup (z2u xs _) h).mpr fun k=>zgf xs k).length_eq
section
variable {X:Cx}
def zcx (K:PySem.W.Frag) (ta:TE):TE:=fun σ H Q=>ta σ H fun x H1=>∃ (l:Addr) (zs:List Str),x=V.ref l/\SqL K H1 l (zs.map V.str)/\zs.length < 1000/\Q (.int (met zs zs.length).length) H1
theorem zar {a:Expr} {ta:TE} {p p2 q pos:Pos} (hc:X.calm=true) (B:BI X.mg) (g1:Gl X "len") (g2:Gl X "set") (ha:PE X a ta)
  (na:starEach [a] X.env=(false,eval a X.env)::starEach [] X.env:=by rfl):PE X (.Call (.Name "len" p) [.Call (.Name "set" p2) [a] [] q] [] pos) (zcx X.K ta):=by
 refine ⟨fun pins s σ H Q I h=>Call_ (ld_blt I g1 B.len PySem.boot_len ?_)⟩
 refine PyProof.Rows.callWith_builtin1 (PyProof.Rows.args_cons (Call_ (ld_blt I g2 B.set PyProof.Rows.boot_set ?_)) rfl) rfl rfl
 refine PyProof.Rows.callWith_type1 (PyProof.Rows.args_cons (thn (ha.run pins s σ H _ I h) fun v s1 ⟨x,H1,I1,r1,l,zs,ex,hq,h1,q1⟩=>PyProof.Rows.args_nil ?_) na) na rfl
 subst ex
 cases r1
 obtain ⟨its,rv,pl,hz⟩:=I1.list hq
 have hlen:its.toArray.size=zs.length:=by rw [List.size_toArray,<- rv.length,List.length_map]
 refine zc3 (xs:=zs) (I1.ok.hd hc) pl.isList (by simpa using rv.strs) (by rw [hlen]; unfold scanBound; omega) fun h' tk hS hk=>PyProof.Rows.args_nil ?_
 rw [hlen] at hS
 have hm:=z84 zs zs.length
 obtain ⟨o,es,ep,t,ho,hex,hd,_,_,_,hf,hn⟩:=hS
 have J:Inv X pins σ H1 { s1 with heap:=h',toks:=tk }:=I1.kept fun b o e=>hk b o (Heap.lt_size e) e
 exact call_len_set ho hex hd hf (by rw [hn]; omega) ⟨.int (met zs zs.length).length,H1,J.tok _,⟨_,by rw [hn]⟩,q1⟩
end
section
variable {X:Cx} {CX:CXT} {k:Nat} {f C:Addr} {fd:FuncData} {ps:List Str} {sp:Sp} {E:L2.St->XK} {x m:Str} {p pos apos:Pos} {e o:Expr} {es:List Expr} {ta:TE} {t:TA}
def z22 (C:Addr) (m:Str) (sp:Sp) (E:L2.St->XK) (ta:TE) (t:TA):TE:=fun σ H Q=>ta σ H fun y H1=>∃ a dx fs,y=.ref a/\H1 a=some (.ins C dx fs)/\fs.lookup m=none/\t σ H1 fun vs H2=>sp (y::vs) H2 Q (E σ)
def z7z (C:Addr) (sp:Sp) (E:L2.St->XK) (t:TA):TE:=fun σ H Q=>t σ H fun vs H1=>∀ y dx,H1 y=none->H1 dx=none->dx ≠ y ->
 sp (.ref y::vs) (upd (upd H1 dx (.own y)) y (.ins C dx [])) (fun v H2=>v=.non/\Q (.ref y) H2) (E σ)
theorem z95 {pl:Sem Bool} (ho:PE X o ta) (c:Cls X.K C) (hm:Meth X.K C m f) (F:FnOk X.prog X.w X.K X.mg X.base CX k f fd ps sp) (hr:Room k X.A) (hb:Binds X.K fd ps []) (hx:∀ σ,PassesAt CX X σ (E σ)) (ha:PA X (e::es) t)
  (hst:starEach (e::es) X.env=(false,eval e X.env)::starEach es X.env:=by rfl) (hpl:(backTo pos (starEach es X.env)).any (·.1)=false:=by rfl)
  (ht:eval (.Call (.Attribute o m apos) (e::es) [] pos) X.env=(do
    let ov <- eval o X.env
    standAt apos.atName
    let (g,first) <- holding [ov] (getMethod ov m pl)
    callWith pos g first (backTo pos (starEach (e::es) X.env)) (backToKw pos (keywordEach [] X.env))):=by rfl) :
  PE X (.Call (.Attribute o m apos) (e::es) [] pos) (z22 C m sp E ta t):=by
 refine ⟨fun pins s σ H Q I h=>PySem.W.methodCall_KW (pl:=pl) (thn (ho.run pins s σ H _ I h) fun u s1 ⟨y,H1,I1,ry,a,dx,fs,ey,ea,l,q⟩=>?_) ht⟩
 subst ey
 cases (show u=Value.ref a from ry)
 exact getmeth_ok I1 ea c hm l (PySem.W.callWith_K (first:=[.ref a]) (h₀:=X.base) I.ok.mod.kin hm.kp
  (thn (ha.run pos pins s1 σ H1 _ I1 q) fun us s2 ⟨vs,H2,I2,r,q2⟩=>⟨I2.kIn,run_fnS (us:=.ref a::us) (vs:=.ref a::vs) F hr hb (hx σ) I2 (.cons rfl r) q2⟩) hst hpl)
theorem z56 {pl:Sem Bool} (ho:PE X o ta) (c:Cls X.K C) (hm:Meth X.K C m f) (F:FnOk X.prog X.w X.K X.mg X.base CX k f fd ps sp) (hr:Room k X.A) (hb:Binds X.K fd ps []) (hx:∀ σ,PassesAt CX X σ (E σ))
  (ht:eval (.Call (.Attribute o m apos) [] [] pos) X.env=(do
    let ov <- eval o X.env
    standAt apos.atName
    let (g,first) <- holding [ov] (getMethod ov m pl)
    callWith pos g first (backTo pos (starEach [] X.env)) (backToKw pos (keywordEach [] X.env))):=by rfl) :
  PE X (.Call (.Attribute o m apos) [] [] pos) (z22 C m sp E ta tNil):=by
 refine ⟨fun pins s σ H Q I h=>PySem.W.methodCall_KW (pl:=pl) (thn (ho.run pins s σ H _ I h) fun u s1 ⟨y,H1,I1,ry,a,dx,fs,ey,ea,l,q⟩=>?_) ht⟩
 subst ey
 cases (show u=Value.ref a from ry)
 exact getmeth_ok I1 ea c hm l (PySem.W.callWith_K0 (first:=[.ref a]) I1.kIn hm.kp (run_fnS (us:=[.ref a]) (vs:=[.ref a]) F hr hb (hx σ) I1 (.cons rfl .nil) q))
theorem zcj (M:Mk X.K C f) (F:FnOk X.prog X.w X.K X.mg X.base CX k f fd ps sp) (hr:Room (k+1) X.A) (hg:Gl X x) (hm:X.mg x=some (.ref C)) (hb:Binds X.K fd ps []) (hx:∀ σ,PassesAt CX X σ (E σ))
  (ha:PA X (e::es) t) (hdb:(x == ("__debug__":Str))=false:=by decide) (he:starEach (e::es) X.env=(false,eval e X.env)::starEach es X.env:=by rfl) (hpl:(backTo pos (starEach es X.env)).any (·.1)=false:=by rfl) :
  PE X (.Call (.Name x p) (e::es) [] pos) (z7z C sp E t):=by
 refine ⟨fun pins s σ H Q I h=>wpAny_Call_Name_kw (ld_glob I hg hm ?_ hdb)⟩
 refine PySem.W.callWith_K (h₀:=X.base) I.ok.mod.kin M.kp (thn (ha.run pos pins s σ H _ I h) fun us s1 ⟨vs,H1,I1,r,q⟩=>⟨I1.kIn,?_⟩) he hpl
 have hq:=q (s1.heap.objs.size+1) s1.heap.objs.size (I1.hok.fresh (Nat.le_succ _)) (I1.hok.fresh (Nat.le_refl _)) (Nat.ne_of_lt (Nat.lt_succ_self _))
 have J:=Inv.made (C:=C) I1
 have r2:Vals (V.ref (s1.heap.objs.size+1)::vs) (Value.ref (s1.heap.objs.size+1)::us):=.cons rfl r
 have hl:(Value.ref (s1.heap.objs.size+1)::us).length=ps.length:=by rw [<- r2.length]; exact F.len _ _ _ _ hq
 have b:=hb _ (Value.ref (s1.heap.objs.size+1)::us) J.kIn (by rw [List.append_nil]; exact hl)
 rw [List.append_nil] at b
 refine wpAny_call (make_map (f:=f) I1.kIn M.makes M.init (beq_iff_eq.mp M.fn) (codeAny_mono (F.run _ X.stack _ _ ⟨Value.ref (s1.heap.objs.size+1)::us,[]⟩ (Value.ref (s1.heap.objs.size+1)::us) _ _ (E σ) (hr.make C us [])
  (J.env0.make C us []) b r2 hq) fun r s' hq'=>?_))
 match r,hq' with
 | .error er,hq'=>exact hx σ pins _ _ er s' J hq'
 | .ok (.ret u),hq' =>
  obtain ⟨v,H',J3,rv,ev,q3⟩:=J.after hq'
  subst ev
  exact ⟨rv,⟨V.ref (s1.heap.objs.size+1),H',J3,rfl,q3⟩⟩
 | .ok .next,hq'=>exact hq'.elim
 | .ok .brk,hq'=>exact hq'.elim
 | .ok .cont,hq'=>exact hq'.elim
end
structure GotM (P:Program) (w:World) (K:PySem.W.Frag) (mg:Str->Option Value) (base:Heap) (C:Addr) (m:Str) (ps:List Str) (k:Nat) (sp:Sp):Prop where
 ex:∃ (f:Addr) (fd:FuncData),FnOk P w K mg base CX0 k f fd ps sp/\Meth K C m f/\Binds K fd ps []/\Cls K C
structure z12 (P:Program) (w:World) (K:PySem.W.Frag) (mg:Str->Option Value) (base:Heap) (C:Addr) (m:Str) (ps:List Str) (k:Nat) (sp:Sp):Prop where
 ex:∃ (f:Addr) (fd:FuncData),FnOk P w K mg base (L2.CX P w) k f fd ps sp/\Meth K C m f/\Binds K fd ps []/\Cls K C
structure GotI (P:Program) (w:World) (K:PySem.W.Frag) (mg:Str->Option Value) (base:Heap) (x:Str) (C:Addr) (ps:List Str) (k:Nat) (sp:Sp):Prop where
 ex:∃ (f:Addr) (fd:FuncData),FnOk P w K mg base (L2.CX P w) k f fd ps sp/\Mk K C f/\Binds K fd ps []/\mg x=some (.ref C)
section
variable {X:Cx} {C:Addr} {x m:Str} {ps:List Str} {k:Nat} {sp:Sp} {e o:Expr} {es:List Expr} {ta:TE} {t:TA} {p pos apos:Pos} {pl:Sem Bool}
theorem z13 (G:GotM X.prog X.w X.K X.mg X.base C m ps k sp) (hr:Room k X.A) (ho:PE X o ta)
  (ht:eval (.Call (.Attribute o m apos) [] [] pos) X.env=(do
    let ov <- eval o X.env
    standAt apos.atName
    let (g,first) <- holding [ov] (getMethod ov m pl)
    callWith pos g first (backTo pos (starEach [] X.env)) (backToKw pos (keywordEach [] X.env))):=by rfl) :
  PE X (.Call (.Attribute o m apos) [] [] pos) (z22 C m sp (fun _=>E0) ta tNil):=by
 obtain ⟨f,fd,h1,h2,h3,h4⟩:=G.ex
 exact z56 ho h4 h2 h1 hr h3 (fun σ pins H s e s' I c=>pass0 pins σ H s e s' I c) ht
theorem z79 (G:z12 X.prog X.w X.K X.mg X.base C m ps k sp) (hr:Room k X.A) (ho:PE X o ta) (ha:PA X (e::es) t)
  (hst:starEach (e::es) X.env=(false,eval e X.env)::starEach es X.env:=by rfl) (hpl:(backTo pos (starEach es X.env)).any (·.1)=false:=by rfl)
  (ht:eval (.Call (.Attribute o m apos) (e::es) [] pos) X.env=(do
    let ov <- eval o X.env
    standAt apos.atName
    let (g,first) <- holding [ov] (getMethod ov m pl)
    callWith pos g first (backTo pos (starEach (e::es) X.env)) (backToKw pos (keywordEach [] X.env))):=by rfl) :
  PE X (.Call (.Attribute o m apos) (e::es) [] pos) (z22 C m sp (fun _=>E0) ta t):=by
 obtain ⟨f,fd,h1,h2,h3,h4⟩:=G.ex
 exact z95 ho h4 h2 h1 hr h3 (fun σ pins H s e s' I c=>passL pins σ H s e s' I c) ha hst hpl ht
theorem z9j {W:WX} (G:z12 X.prog X.w X.K X.mg X.base C m ps k sp) (hr:Room k X.A) (tk:Takes X W) (ho:PE X o ta) (ha:PA X (e::es) t)
  (hst:starEach (e::es) X.env=(false,eval e X.env)::starEach es X.env:=by rfl) (hpl:(backTo pos (starEach es X.env)).any (·.1)=false:=by rfl)
  (ht:eval (.Call (.Attribute o m apos) (e::es) [] pos) X.env=(do
    let ov <- eval o X.env
    standAt apos.atName
    let (g,first) <- holding [ov] (getMethod ov m pl)
    callWith pos g first (backTo pos (starEach (e::es) X.env)) (backToKw pos (keywordEach [] X.env))):=by rfl) :
  PE X (.Call (.Attribute o m apos) (e::es) [] pos) (z22 C m sp (WE W) ta t):=by
 obtain ⟨f,fd,h1,h2,h3,h4⟩:=G.ex
 exact z95 ho h4 h2 h1 hr h3 (fun σ=>passAt tk σ) ha hst hpl ht
theorem zbd (G:z12 X.prog X.w X.K X.mg X.base C m ps k sp) (hr:Room k X.A) (ho:PE X o ta)
  (ht:eval (.Call (.Attribute o m apos) [] [] pos) X.env=(do
    let ov <- eval o X.env
    standAt apos.atName
    let (g,first) <- holding [ov] (getMethod ov m pl)
    callWith pos g first (backTo pos (starEach [] X.env)) (backToKw pos (keywordEach [] X.env))):=by rfl) :
  PE X (.Call (.Attribute o m apos) [] [] pos) (z22 C m sp (fun _=>E0) ta tNil):=by
 obtain ⟨f,fd,h1,h2,h3,h4⟩:=G.ex
 exact z56 ho h4 h2 h1 hr h3 (fun σ pins H s e s' I c=>passL pins σ H s e s' I c) ht
theorem zbf {W:WX} (G:z12 X.prog X.w X.K X.mg X.base C m ps k sp) (hr:Room k X.A) (tk:Takes X W) (ho:PE X o ta)
  (ht:eval (.Call (.Attribute o m apos) [] [] pos) X.env=(do
    let ov <- eval o X.env
    standAt apos.atName
    let (g,first) <- holding [ov] (getMethod ov m pl)
    callWith pos g first (backTo pos (starEach [] X.env)) (backToKw pos (keywordEach [] X.env))):=by rfl) :
  PE X (.Call (.Attribute o m apos) [] [] pos) (z22 C m sp (WE W) ta tNil):=by
 obtain ⟨f,fd,h1,h2,h3,h4⟩:=G.ex
 exact z56 ho h4 h2 h1 hr h3 (fun σ=>passAt tk σ) ht
theorem zad (G:GotI X.prog X.w X.K X.mg X.base x C ps k sp) (hr:Room (k+1) X.A) (hg:Gl X x) (ha:PA X (e::es) t) (hdb:(x == ("__debug__":Str))=false:=by decide)
  (he:starEach (e::es) X.env=(false,eval e X.env)::starEach es X.env:=by rfl) (hpl:(backTo pos (starEach es X.env)).any (·.1)=false:=by rfl) :
  PE X (.Call (.Name x p) (e::es) [] pos) (z7z C sp (fun _=>E0) t):=by
 obtain ⟨f,fd,h1,h2,h3,h4⟩:=G.ex
 exact zcj h2 h1 hr hg h4 h3 (fun σ pins H s e s' I c=>passL pins σ H s e s' I c) ha hdb he hpl
end
def z8f (K:PySem.W.Frag) (C:Addr):Sp:=fun vs H Q _=>∃ (a:Addr) (y:V),vs=[.ref a,y]/\OexC K C/\PySem.W.findIn K (.ref C) "kind"=some none/\H a=some (exo a C none)/\∀ dx,H dx=none->dx ≠ a->Q .non (upd (upd H dx (exd dx [("kind",y)])) a (exo a C (some dx)))
structure OwnI (P:Program) (w:World) (K:PySem.W.Frag) (mg:Str->Option Value) (base:Heap) (x:Str) (C:Addr) (k:Nat):Prop where
 gC:mg x=some (.ref C)
 T:OexC K C
 no:PySem.W.findIn K (.ref C) "kind"=some none
 ex:∃ (f:Addr) (fd:FuncData),PySem.W.findIn K (.ref C) "__init__"=some (some (.ref f))/\PySem.W.typeIn K (.ref f)=some (.type "function")/\FnOk P w K mg base CX0 k f fd ["self","kind"] (z8f K C)/\Binds K fd ["self","kind"] []
def zas (K:PySem.W.Frag) (C:Addr):Bool:=(match K.lookup C with
 | some ⟨.type "type",_,.cls cd,sl⟩=>(match cd.mro,sl.toList with
  | .ref D::bm,[_,_,_,_,some (.builtin n),_]=>decide (D=C)&&(n == "ValueError.__new__"&&(!cd.hasDel&&(cd.hasDict&&PySem.HandSPX.refsVE bm)))
  | _,_=>false)
 | _=>false)&&(He.eqO (PySem.W.findIn K (.ref C) "__setattr__") (some (some (.builtin "object.__setattr__")))&&(decide (PySem.W.subIn K (.ref C) (.type "BaseException")=some true)&&(decide (PySem.W.typeIn K (.ref C)=some (.type "type"))&&PySem.W.keepIn K (.ref C))))
theorem z94 {K:PySem.W.Frag} {C:Addr} (h:zas K C=true):OexC K C:=by
 obtain ⟨h1,h⟩:=He.ba h
 obtain ⟨h2,h⟩:=He.ba h
 obtain ⟨h3,h⟩:=He.ba h
 obtain ⟨h4,h5⟩:=He.ba h
 refine ⟨?_,He.eqO_ok h2,of_decide_eq_true h3,of_decide_eq_true h4,h5⟩
 split at h1
 ·rename_i dd cd sl ho
  split at h1
  ·rename_i D bm k0 k1 k2 k3 n k5 hm hs
   obtain ⟨e1,h1⟩:=He.ba h1
   obtain ⟨e2,h1⟩:=He.ba h1
   obtain ⟨e3,h1⟩:=He.ba h1
   obtain ⟨e4,e5⟩:=He.ba h1
   have e1:=of_decide_eq_true e1
   have e2:=beq_iff_eq.mp e2
   obtain ⟨nm,bs,mro,ns,qn,hd,sn,sb,ab,col,del⟩:=cd
   simp only at hm e3 e4
   subst e1 e2 hm e4
   have e3:del=false:=by simpa using e3
   subst e3
   obtain ⟨sl⟩:=sl
   simp only at hs
   subst hs
   exact ⟨nm,qn,ns,bs,bm,sn,sb,ab,col,dd,k0,k1,k2,k3,k5,ho,e5⟩
  ·cases h1
 ·cases h1
theorem _root_.L2.PE.wide {X:Cx} {e:Expr} {te:TE} (h:PE X e te):PE X e (fun σ H Q=>∃ Q':VK,te σ H Q'/\∀ v H',Q' v H'->Q v H') :=
 ⟨fun pins s σ H Q I ⟨Q',h1,h2⟩=>thn (h.run pins s σ H Q' I h1) fun v s1 ⟨y,H1,I1,r,q⟩=>⟨y,H1,I1,r,h2 _ _ q⟩⟩
section
variable {X:Cx} {C:Addr} {x:Str} {k:Nat} {e:Expr} {te:TE} {p pos:Pos}
def zlq (C:Addr) (te:TE):L2.St->Hp->XK->Prop:=fun σ H Q=>te σ H fun y H1=>∀ d,H1 d=none->Q (.ref C) (some d) (upd H1 d (.xd [("kind",y)]))
theorem z98 (O:OwnI X.prog X.w X.K X.mg X.base x C k) (hr:Room (k+1) X.A) (hg:Gl X x) (he:PE X e te) (hdb:(x == ("__debug__":Str))=false:=by decide)
  (hs:starEach [e] X.env=(false,eval e X.env)::starEach [] X.env:=by rfl) (hpl:(backTo pos (starEach [] X.env)).any (·.1)=false:=by rfl):PMk X (.Call (.Name x p) [e] [] pos) (zlq C te):=by
 obtain ⟨f,fd,h1,h2,h3,h4⟩:=O.ex
 have hw:=pmk_oex (p:=p) O.T h1 h2 h3 hr h4 .nil pass0 hg O.gC (pa_cons (hs:=hs) he.wide pa_nil) hdb hs hpl
 intro pins s σ H Q I h
 refine hw pins s σ H Q I ⟨_,h,fun y H1 q=>?_⟩
 refine ⟨by simp,fun a ha=>⟨a,y,rfl,O.T,O.no,upd_same,fun dx hd ne=>⟨rfl,dx,[("kind",y)],upd_same,?_,?_,?_⟩⟩⟩
 ·rw [upd_ne ne,upd_same]
 ·rw [upd_ne ne] at hd; exact hd
 ·have e:upd (del (upd (upd (upd H1 a (exo a C none)) dx (exd dx [("kind",y)])) a (exo a C (some dx))) a) dx (.xd [("kind",y)])=upd H1 dx (.xd [("kind",y)]):=by
   funext b
   by_cases h1:b=dx
   ·subst h1; rw [upd_same,upd_same]
   ·rw [upd_ne h1,upd_ne h1]
    by_cases h2:b=a
    ·subst h2; rw [del_same,ha]
    ·rw [del_ne h2,upd_ne h2,upd_ne h1,upd_ne h2]
  rw [e]
  rw [upd_ne ne] at hd
  exact q dx hd
end
abbrev Ru:=Gr × Gr
def Ru.enc (r:Ru):PyData:=.tuple [r.1.enc,r.2.enc]
def Ru.within (r:Ru):List (Tr × Int):=r.1.within++r.2.within
structure Kd where
 n:Str
 w:Bool
 rs:List Ru
abbrev Bk:=List Kd
abbrev Bk.names (b:Bk):List Str:=b.map (·.n)
def Kd.rowE (k:Kd):PyData:=.tuple (k.rs.map Ru.enc)
def Bk.get (b:Bk) (n:Str):Option Kd:=b.find? fun k=>decide (k.n=n)
def RuOk (r:Ru):Prop:=r.1.Ok 1000000001/\r.2.Ok 1000000001/\r.1.parts+r.2.parts<=4
def KdOk (ns:List Str) (k:Kd):Prop:=z02 k.n/\k.rs.length<=4/\∀ r ∈ k.rs,RuOk r/\∀ p ∈ Ru.within r,p.1.1 ∈ ns
structure Bk.Ok (b:Bk):Prop where
 pos:1<=b.length
 len:b.length<=8
 nd:b.names.Nodup
 kd:∀ k ∈ b,KdOk b.names k
theorem Ru.noList_enc (r:Ru):z03 (Ru.enc r)=true:=by simp [Ru.enc,z03,z07,Gr.noList_enc]
theorem Kd.noList_rowE (k:Kd):z03 k.rowE=true:=by
 unfold Kd.rowE z03
 induction k.rs with
 | nil=>rfl
 | cons r l ih=>rw [List.map_cons,z07,Ru.noList_enc,ih]; rfl
theorem Bk.get_some {b:Bk} {n:Str} {k:Kd} (h:b.get n=some k):k ∈ b/\k.n=n :=
 ⟨List.mem_of_find?_eq_some h,of_decide_eq_true (List.find?_some (p:=fun k:Kd=>decide (k.n=n)) h)⟩
theorem Bk.get_none {b:Bk} {n:Str} (h:b.get n=none):n ∉ b.names:=fun z=>by
 obtain ⟨k,hk,e⟩:=List.mem_map.mp z
 have:=List.find?_eq_none.mp h k hk
 exact this (decide_eq_true e)
theorem Bk.get_of {b:Bk} {n:Str} (h:n ∈ b.names):∃ k,b.get n=some k:=by
 cases e:b.get n with
 | none=>exact absurd h (Bk.get_none e)
 | some k=>exact ⟨k,rfl⟩
theorem Bk.get_self {b:Bk} (nd:b.names.Nodup) {k:Kd} (hk:k ∈ b):b.get k.n=some k:=by
 induction b with
 | nil=>cases hk
 | cons x r ih =>
  have nd':(x.n::Bk.names r).Nodup:=nd
  unfold Bk.get
  rcases List.mem_cons.mp hk with e | e
  ·subst e; rw [List.find?_cons_of_pos (by simp)]
  ·have:¬ x.n=k.n:=fun z=>(List.nodup_cons.mp nd').1 (by rw [z]; exact List.mem_map.mpr ⟨k,e,rfl⟩)
   rw [List.find?_cons_of_neg (by simpa using this)]
   exact ih (List.nodup_cons.mp nd').2 e
def Bk.rowKV (b:Bk) (us:List V):List (Key × V):=List.zipWith (fun (k:Kd) (u:V)=>(Sum.inr k.n,u)) b us
def Bk.spKV (b:Bk):List (Key × V):=b.map fun k=>(Sum.inr k.n,V.bl k.w)
theorem Bk.spKV_val (b:Bk) (n:Str):valV b.spKV (Sum.inr n)=(b.get n).map fun k=>V.bl k.w:=by
 induction b with
 | nil=>rfl
 | cons x r ih =>
  by_cases e:x.n=n
  ·subst e
   rw [show Bk.spKV (x::r)=(Sum.inr x.n,V.bl x.w)::Bk.spKV r from rfl,valV_pos rfl]
   simp [Bk.get]
  ·rw [show Bk.spKV (x::r)=(Sum.inr x.n,V.bl x.w)::Bk.spKV r from rfl,valV_neg (by simpa using e),ih]
   simp [Bk.get,e]
theorem Bk.rowKV_val {K:PySem.W.Frag} {H:Hp} (n:Str):∀ {b:Bk} {us:List V},Bears K H Kd.rowE us b->∀ {k:Kd},b.get n=some k->∃ u,valV (b.rowKV us) (Sum.inr n)=some u/\Dp K H u k.rowE
 | [],_,_,k,h=>by cases h
 | x::r,_,.cons (v:=u) (vs:=us) h0 h1,k,h=>by
  have e0:Bk.rowKV (x::r) (u::us)=(Sum.inr x.n,u)::Bk.rowKV r us:=rfl
  by_cases e:x.n=n
  ·subst e
   have:x=k:=by simpa [Bk.get] using h
   subst this
   exact ⟨u,by rw [e0,valV_pos rfl],h0⟩
  ·have h':Bk.get r n=some k:=by simpa [Bk.get,e] using h
   obtain ⟨v,a,c⟩:=Bk.rowKV_val n h1 h'
   exact ⟨v,by rw [e0,valV_neg (by simpa using e)]; exact a,c⟩
abbrev bkF (d1 d2:Addr):List (Str × V):=[("spread_by_name",.ref d1),("rows_by_name",.ref d2)]
def BkA (K:PySem.W.Frag) (C:Addr) (H:Hp) (v:V) (b:Bk):Prop:=∃ (a dx d1 d2:Addr) (us:List V),v=.ref a/\H a=some (.ins C dx (bkF d1 d2))/\H d1=some (.dK b.spKV)/\H d2=some (.dK (b.rowKV us))/\Bears K H Kd.rowE us b
def Lsts (H:Hp) (ps:List Addr):Prop:=∀ p ∈ ps,H p=none\/∃ xs,H p=some (.lst xs)
theorem Lsts.nil {H:Hp}:Lsts H []:=fun _ h=>nomatch h
theorem Lsts.one {H:Hp} {p:Addr} {xs:List V} (h:H p=some (.lst xs)):Lsts H [p]:=fun q z=>by rw [List.mem_singleton.mp z]; exact .inr ⟨xs,h⟩
theorem Lsts.notin {H:Hp} {ps:List Addr} (h:Lsts H ps) {a:Addr} {o:HO} (e:H a=some o) (n:∀ xs,o ≠ .lst xs):a ∉ ps:=fun z=>by
 rcases h a z with q | ⟨xs,q⟩
 ·rw [e] at q; cases q
 ·rw [e] at q; exact n xs (Option.some.inj q)
section
variable {K:PySem.W.Frag} {C:Addr} {H H':Hp} {v:V} {b:Bk} {ps:List Addr}
theorem BkA.sb (h:BkA K C H v b) (e:SB ps H H') (hp:Lsts H ps):BkA K C H' v b:=by
 obtain ⟨a,dx,d1,d2,us,rfl,h1,h2,h3,h4⟩:=h
 exact ⟨a,dx,d1,d2,us,rfl,e.keep _ _ h1 (hp.notin h1 fun _ z=>nomatch z),e.keep _ _ h2 (hp.notin h2 fun _ z=>nomatch z),e.keep _ _ h3 (hp.notin h3 fun _ z=>nomatch z),h4.sb e Kd.noList_rowE⟩
theorem BkA.sb0 (h:BkA K C H v b) (e:SB [] H H'):BkA K C H' v b:=h.sb e Lsts.nil
theorem BkA.at (h:BkA K C H v b):∃ a dx d1 d2,v=.ref a/\H a=some (.ins C dx (bkF d1 d2)):=by
 obtain ⟨a,dx,d1,d2,us,e,h1,_⟩:=h
 exact ⟨a,dx,d1,d2,e,h1⟩
end
structure ClsF (K:PySem.W.Frag) (C:Addr) (fs:List Str):Prop where
 c:Cls K C
 no:∀ f ∈ fs,NoAttr K C f
def z2q (K:PySem.W.Frag) (C:Addr):Sp:=fun vs H Q _=>∃ (v:V) (b:Bk),vs=[v]/\BkA K C H v b/\b.length<=1000/\∀ (l:Addr) (H':Hp),SB [] H H'->H l=none->H' l=some (.lst (b.names.map V.str))->Q (.ref l) H'
def z3b (N:Addr) (b:Bk) (n:Str) (H:Hp) (E:XK) (q:Kd->Prop):Prop:=(∀ k,b.get n=some k->q k)/\(b.get n=none->∀ (d:Addr) (H':Hp),SB [] H H'->H d=none->H' d=some (.xd [("kind",.str n)])->E (.ref N) (some d) H')
def z2l (K:PySem.W.Frag) (C N:Addr):Sp:=fun vs H Q E=>∃ (v:V) (b:Bk) (n:Str),vs=[v,.str n]/\BkA K C H v b/\b.length<=1000/\z3b N b n H E fun _=>∀ H',SB [] H H'->Q .non H'
def z25 (K:PySem.W.Frag) (C N:Addr):Sp:=fun vs H Q E=>∃ (v:V) (b:Bk) (n:Str),vs=[v,.str n]/\BkA K C H v b/\b.length<=1000/\z3b N b n H E fun k=>∀ H',SB [] H H'->Q (.bl k.w) H'
def z3z (K:PySem.W.Frag) (C N:Addr):Sp:=fun vs H Q E=>∃ (v:V) (b:Bk) (n:Str),vs=[v,.str n]/\BkA K C H v b/\b.length<=1000/\(∀ k ∈ b,k.rs.length<=1000) /\
 z3b N b n H E fun k=>∀ (l:Addr) (us:List V) (H':Hp),SB [] H H'->H l=none->H' l=some (.lst us)->Bears K H' Ru.enc us k.rs->Q (.ref l) H'
inductive KT where
 | other
 | three (d:PyData) (w:Option Bool) (rs:Option (List PyData))
def Kd.kt (k:Kd):KT:=.three (.str k.n) (some k.w) (some (k.rs.map Ru.enc))
def KTA (K:PySem.W.Frag) (H:Hp) (v:V):KT->Prop
 | .other=>∃ d,Tg K H v d/\∀ ds,d=.tuple ds->ds.length ≠ 3
 | .three d w rs=>∃ (t:Addr) (x y z:V),v=.ref t/\SqT K H t [x,y,z]/\Tg K H x d/\(match w with
   | some b=>y=.bl b
   | none=>∃ n,TyX K H y (.type n)/\kitB n "bool"=some false)/\(match rs with
   | some ds=>∃ (l:Addr) (zs:List V),z=.ref l/\H l=some (.lst zs)/\TgAll K H zs ds
   | none=>∃ n,TyX K H z (.type n)/\kitB n "list"=some false)
def RuD (d:PyData):Prop:=∃ r:Ru,d=Ru.enc r/\RuOk r
def zb0 (d:PyData):Prop:=d.depth<=60/\wide d<=1000/\∀ a b,d=.tuple [a,b]->∀ g:Gr,a=g.enc\/b=g.enc->g.deep<=18/\g.parts<=450
def z91:KT->Prop
 | .other=>True
 | .three d w rs=>∀ ds,rs=some ds->ds.length<=1000/\∀ x ∈ ds,zb0 x
def KTKd (t:KT):Prop:=∃ k:Kd,t=k.kt/\z02 k.n/\k.rs.length<=4/\∀ r ∈ k.rs,RuOk r
def KTBk (ts:List KT):Prop:=∃ b:Bk,ts=b.map Kd.kt/\Bk.Ok b
inductive KTAll (K:PySem.W.Frag) (H:Hp):List V->List KT->Prop
 | nil:KTAll K H [] []
 | cons {v:V} {t:KT} {vs:List V} {ts:List KT}:KTA K H v t->KTAll K H vs ts->KTAll K H (v::vs) (t::ts)
def z3j (K:PySem.W.Frag):Sp:=fun vs H Q _=>∃ (v:V) (d:PyData),vs=[v]/\Tg K H v d/\zb0 d/\∀ (b:Bool) (H':Hp),SB [] H H'->(b=true ↔ RuD d)->Q (.bl b) H'
def z7c (K:PySem.W.Frag):Sp:=fun vs H Q _=>∃ (v:V) (t:KT),vs=[v]/\KTA K H v t/\z91 t/\∀ (b:Bool) (H':Hp),SB [] H H'->(b=true ↔ KTKd t)->Q (.bl b) H'
def z26 (K:PySem.W.Frag):Sp:=fun vs H Q _=>∃ (v:V) (l:Addr) (r:Ru) (ns:List Str),vs=[v,.ref l]/\Dp K H v (Ru.enc r)/\RuOk r/\SqL K H l (ns.map V.str)/\ns.length<=1000/\∀ H',SB [] H H'->Q (.bl (decide (∀ p ∈ Ru.within r,p.1.1 ∈ ns))) H'
def z4i (K:PySem.W.Frag):Sp:=fun vs H Q _=>∃ (l:Addr) (xs:List V) (ts:List KT),vs=[.ref l]/\SqL K H l xs/\KTAll K H xs ts/\(∀ t ∈ ts,z91 t)/\ts.length<=1000/\∀ (b:Bool) (H':Hp),SB [] H H'->(b=true ↔ KTBk ts)->Q (.bl b) H'
def z3c (K:PySem.W.Frag) (C B:Addr):Sp:=fun vs H Q E=>∃ (x dx l:Addr) (xs:List V) (ts:List KT),vs=[.ref x,.ref l]/\H x=some (.ins C dx [])/\H dx=some (.own x)/\H l=some (.lst xs)/\KTAll K H xs ts/\(∀ t ∈ ts,z91 t)/\ts.length<=1000 /\
 (∀ b:Bk,ts=b.map Kd.kt->b.Ok->∀ H',SB [x] H H'->BkA K C H' (.ref x) b->Q .non H')/\(¬ KTBk ts->∀ H',SB [] H H'->E (.ref B) none H')
theorem z1s (n:Str) (zs:List Str):inV (.str n) (zs.map V.str)=decide (n ∈ zs):=by
 induction zs with
 | nil=>rfl
 | cons z r ih =>
  show ((z == n) || inV (.str n) (r.map V.str))=_
  rw [ih]
  by_cases e:z=n
  ·subst e; simp
  ·have e':¬ n=z:=fun y=>e y.symm
   rw [show (z == n)=false from beq_eq_false_iff_ne.mpr e,Bool.false_or]
   by_cases h:n ∈ r <;> simp [h,e']
theorem z1f (zs:List Str):(zs.map V.str).all flatV=true:=by simp [flatV]
theorem getK {H:Hp} {d:Addr} {kvs:List (Key × V)} {n:Str} {v:V} (h:H d=some (.dK kvs)) (e:valV kvs (Sum.inr n)=some v):DGet H d (.str n) (some v):=.inl ⟨kvs,Sum.inr n,.inl h,rfl,e.symm⟩
theorem Bk.get_isSome (b:Bk) (n:Str):decide (n ∈ b.names)=(b.get n).isSome:=by
 cases e:b.get n with
 | none=>simpa using Bk.get_none e
 | some k=>simpa using List.mem_map.mpr ⟨k,(Bk.get_some e).1,(Bk.get_some e).2⟩
section
variable {J:It} {n:Nat} {G:Hp->Prop} {Y:Nat->Hp->V->Hp->Prop}
theorem z11 (w:Walk J n G Y) {g:TG} {tt:TT} {te:TE} {vs:List Nat} {σ:L2.St} {H:Hp} {D:Addr} {Qd:Hp->Prop} (hD:H D=none) (hn:n < sizeLine) (R:Nat->List V->Hp->Prop) (h0:R 0 [] H) (hG:∀ H2,SB [] H H2->G H2)
  (st:∀ i us H2 H3,SB [D] H2 H3->R i us H2->R i us H3)
  (turn:∀ (Pv:Hp->Prop) i x H2 H' us,i < n->SB [] H H2->Y i H2 x H'->R i us H2->us.length<=i->(∀ y H5,SB [] H2 H5->R (i+1) (us++[y]) H5->∃ acc,H5 D=some (.lst acc)/\acc.length < sizeLine/\Pv (upd H5 D (.lst (acc++[y])))) ->
   (∀ H4,SB [] H2 H4->R (i+1) us H4->Pv H4)->g x (wipe σ vs) H' fun σ2 H3=>wipe σ2 vs=wipe σ vs/\tt σ2 H3 fun b H4 =>
    if b=true then te σ2 H4 fun y H5=>∃ acc,H5 D=some (.lst acc)/\acc.length < sizeLine/\Pv (upd H5 D (.lst (acc++[y]))) else Pv H4)
  (done:∀ us H2,SB [] H H2->H2 D=some (.lst us)->R n us H2->us.length<=n->Qd H2) :
  ∃ W:Nat->Nat->Hp->Prop,(∃ m,W 0 m (upd H D (.lst [])))/\∀ i m H,W i m H ->
   (J.stop i H/\Qd H)\/(J.go i H/\∃ Nx:Hp->Prop,(∀ H',Nx H'->∃ m',m' < m/\W (i+1) m' H')/\∀ x H',J.yld i H x H'->g x (wipe σ vs) H' fun σ2 H2=>wipe σ2 vs=wipe σ vs/\tt σ2 H2 fun b H3 =>
    if b=true then te σ2 H3 fun y H4=>∃ acc,H4 D=some (.lst acc)/\acc.length < sizeLine/\Nx (upd H4 D (.lst (acc++[y]))) else Nx H3):=by
 refine lc_it w (fun i H2=>SB [D] H H2/\∃ us,H2 D=some (.lst us)/\R i us H2/\us.length<=i) ⟨SB.new hD _,[],upd_same,st _ _ _ _ (SB.new hD _) h0,Nat.le_refl _⟩ (fun i H2 _ h=>hG H2 (h.1.drop hD)) (fun i x H2 H' hi h y=>?_) (fun H2 h=>?_)
 ·obtain ⟨s2,us,hD2,hR,hl⟩:=h
  refine turn _ i x H2 H' us hi (s2.drop hD) y hR hl (fun y H5 s5 r5=>?_) (fun H4 s4 r4=>⟨s2.trans s4.nil,us,s4.keep _ _ hD2 nmn,r4,by omega⟩)
  have hD5:=s5.keep _ _ hD2 nmn
  refine ⟨us,hD5,by omega,(s2.trans s5.nil).trans (SB.set hD5 (by simp) _),_,upd_same,st _ _ _ _ (SB.set hD5 (by simp) _) r5,?_⟩
  rw [List.length_append,List.length_singleton]; omega
 ·obtain ⟨s2,us,hD2,hR,hl⟩:=h
  exact done us H2 (s2.drop hD) hD2 hR hl
end
theorem z8s {C:Int}:∀ {g:Gr},z0a g.enc=true->(∀ p ∈ g.within,p.2 < C)->g.Ok C:=by
 have key:∀ (g:Gr),(∀ p ∈ g.within,p.2 < C)->grPs g.encs=true->(z3a (g.encs.map exp0)=true->g.Ok C):=by
  intro g
  induction g with
  | nil=>intro _ _ _; trivial
  | cons k g m r ihg ihr =>
   intro hb hps hri
   have hb1:∀ p ∈ g.within,p.2 < C:=fun p hp=>hb p (mcm _ (mal _ hp))
   have hb2:∀ p ∈ r.within,p.2 < C:=fun p hp=>hb p (mcm _ (mar _ hp))
   have e:(Gr.cons k g m r).encs=Gr.pEnc ((k,g),m)::r.encs:=rfl
   rw [e,grPs,Bool.and_eq_true] at hps
   rw [e,List.map_cons] at hri
   have hp:grP (.tuple [.tuple [.str k,.tuple g.encs],.int m])=true:=hps.1
   rw [grP,grP2,Bool.and_eq_true,z0l,trD2,Bool.and_eq_true,trD3,Bool.and_eq_true,z0a,Bool.and_eq_true,z0y,Bool.and_eq_true] at hp
   obtain ⟨⟨hn,⟨hgp,hgr⟩,_⟩,hmm,_⟩:=hp
   have hname:z02 k:=by
    obtain ⟨z,ez,hz⟩:=z51 hn
    cases ez; exact hz
   have hri2:z3a (r.encs.map exp0)=true:=by
    cases hre:r.encs with
    | nil=>rfl
    | cons d ds =>
     rw [hre,List.map_cons] at hri
     have:(dataLt (exp0 (Gr.pEnc ((k,g),m))) (exp0 d)::ltsD (exp0 d::ds.map exp0)).all id=true:=hri
     rw [List.all_cons,Bool.and_eq_true] at this
     rw [List.map_cons]; exact this.2
   have hro:=ihr hb2 hps.2 hri2
   refine ⟨hname,ihg hb1 hgp hgr,of_decide_eq_true hmm,hb _ (mcs ..),hro,fun p hpm=>?_⟩
   cases r with
   | nil=>cases hpm
   | cons k2 g2 m2 r2 =>
    have h12:dataLt (Gr.tEnc (k,g)) (Gr.tEnc (k2,g2))=true:=by
     have:(dataLt (Gr.tEnc (k,g)) (Gr.tEnc (k2,g2))::ltsD (Gr.tEnc (k2,g2)::r2.encs.map exp0)).all id=true:=hri
     rw [List.all_cons,Bool.and_eq_true] at this
     exact this.1
    rcases List.mem_cons.mp hpm with h | h
    ·subst h; exact h12
    ·exact z3u h12 (hro.2.2.2.2.2 p h)
 intro g hg hb
 rw [Gr.enc,z0a,Bool.and_eq_true] at hg
 exact key g hb hg.1 hg.2
theorem z2x {C:Int}:∀ {g:Gr},g.Ok C->∀ p ∈ g.within,z02 p.1.1/\p.1.2.Ok C/\1<=p.2/\p.2 < C
 | .nil,_,p,h=>by cases h
 | .cons k g m r,⟨h0,h1,h2,h3,h4,_⟩,p,h=>by
  rcases List.mem_cons.mp h with h | h
  ·subst h; exact ⟨h0,h1,h2,h3⟩
  ·rcases List.mem_append.mp h with h | h
   ·exact z2x h1 p h
   ·exact z2x h4 p h
theorem Gr.enc_inj {g h:Gr} (e:g.enc=h.enc):g=h:=by
 have:=Gr.eqv_enc g h
 rw [e,Gr.eqv_enc h h,decide_eq_true rfl] at this
 exact of_decide_eq_true this.symm
theorem zgx {g h:Gr} (hg:z0a g.enc=true) (hh:z0a h.enc=true):RuD (.tuple [g.enc,h.enc]) ↔ g.parts+h.parts<=4/\∀ p ∈ g.within++h.within,p.2<=1000000000:=by
 constructor
 ·rintro ⟨r,e,h1,h2,h3⟩
  have e':PyData.tuple [g.enc,h.enc]=.tuple [r.1.enc,r.2.enc]:=e
  injection e' with e'
  injection e' with a e'
  injection e' with b _
  rw [Gr.enc_inj a,Gr.enc_inj b]
  refine ⟨h3,fun p hp=>?_⟩
  rcases List.mem_append.mp hp with hp | hp
  ·have:=(z2x h1 p hp).2.2.2; omega
  ·have:=(z2x h2 p hp).2.2.2; omega
 ·rintro ⟨h1,h2⟩
  exact ⟨(g,h),rfl,z8s hg fun p hp=>by have:=h2 p (mal _ hp); omega,z8s hh fun p hp=>by have:=h2 p (mar _ hp); omega,h1⟩
theorem zah {d:PyData} (h:RuD d):∃ g k:Gr,d=.tuple [g.enc,k.enc]/\z0a g.enc=true/\z0a k.enc=true:=by
 obtain ⟨r,e,h1,h2,_⟩:=h
 exact ⟨r.1,r.2,e,z31 h1,z31 h2⟩
theorem z0e:∀ g:Gr,g.deep<=g.parts
 | .nil=>Nat.le_refl _
 | .cons k g m r=>by
  have h1:=z0e g
  have h2:=z0e r
  show max (1+g.deep) r.deep<=1+g.parts+r.parts
  omega
theorem za9:∀ {ds:List PyData},(∀ x ∈ ds,RuD x)->∃ rs:List Ru,ds=rs.map Ru.enc/\∀ r ∈ rs,RuOk r
 | [],_=>⟨[],rfl,fun _ h=>nomatch h⟩
 | d::ds,h=>by
  obtain ⟨r,e,hr⟩:=h d (mcs ..)
  obtain ⟨rs,e2,hrs⟩:=za9 fun x hx=>h x (mcm _ hx)
  refine ⟨r::rs,by rw [e,e2]; rfl,fun x hx=>?_⟩
  rcases List.mem_cons.mp hx with hx | hx
  ·rw [hx]; exact hr
  ·exact hrs x hx
theorem zjt {K:PySem.W.Frag} {H:Hp} {a:Addr} {xs:List V} (h:SqL K H a xs):TyX K H (.ref a) (.type "list"):=by
 rcases h with (h | ⟨o,h⟩) | ⟨o,its,n,h,c,_⟩
 ·exact .base (.lst h)
 ·exact .base (.frz h)
 ·exact .kList h c
section
variable {K:PySem.W.Frag} {H H':Hp}
theorem zbh (e:SB [] H H'):∀ {t:KT} {v:V},KTA K H v t->KTA K H' v t
 | .other,v,⟨d,h1,h2⟩=>⟨d,z20 e h1,h2⟩
 | .three d w rs,v,⟨t,x,y,z,e0,h1,h2,h3,h4⟩=>by
  refine ⟨t,x,y,z,e0,e.sqT h1,z20 e h2,?_,?_⟩
  ·cases w with
   | some b=>exact h3
   | none =>
    obtain ⟨n,a,b⟩:=h3
    exact ⟨n,z2h e (fun _ _=>nmn) a,b⟩
  ·cases rs with
   | some ds =>
    obtain ⟨l,zs,e1,h5,h6⟩:=h4
    exact ⟨l,zs,e1,e.keep _ _ h5 nmn,z7e e h6⟩
   | none =>
    obtain ⟨n,a,b⟩:=h4
    exact ⟨n,z2h e (fun _ _=>nmn) a,b⟩
theorem KTAll.sb (e:SB [] H H'):∀ {vs:List V} {ts:List KT},KTAll K H vs ts->KTAll K H' vs ts
 | _,_,.nil=>.nil
 | _,_,.cons h t=>.cons (zbh e h) (KTAll.sb e t)
theorem KTAll.length:∀ {vs:List V} {ts:List KT},KTAll K H vs ts->vs.length=ts.length
 | _,_,.nil=>rfl
 | _,_,.cons h t=>by rw [List.length_cons,List.length_cons,KTAll.length t]
theorem KTAll.get:∀ {vs:List V} {ts:List KT} {i:Nat} {v:V},KTAll K H vs ts->vs[i]?=some v->∃ t,ts[i]?=some t/\KTA K H v t
 | _,_,i,v,.nil,h=>by simp at h
 | _,_,0,v,.cons h t,e=>by simp at e; subst e; exact ⟨_,rfl,h⟩
 | _,_,i+1,v,.cons h t,e=>by
  simp at e
  obtain ⟨t',e',h'⟩:=KTAll.get (i:=i) t e
  exact ⟨t',by simpa using e',h'⟩
theorem zcf:∀ {ts:List KT},(∀ t ∈ ts,KTKd t)->∃ b:Bk,ts=b.map Kd.kt/\∀ k ∈ b,z02 k.n/\k.rs.length<=4/\∀ r ∈ k.rs,RuOk r
 | [],_=>⟨[],rfl,fun _ h=>nomatch h⟩
 | t::ts,h=>by
  obtain ⟨k,e,hk⟩:=h t (mcs ..)
  obtain ⟨b,e2,hb⟩:=zcf fun x hx=>h x (mcm _ hx)
  refine ⟨k::b,by rw [e,e2]; rfl,fun x hx=>?_⟩
  rcases List.mem_cons.mp hx with hx | hx
  ·rw [hx]; exact hk
  ·exact hb x hx
theorem zj0 {k j:Kd} (e:k.kt=j.kt):k=j:=by
 obtain ⟨n,w,rs⟩:=k
 obtain ⟨n2,w2,rs2⟩:=j
 injection e with e1 e2 e3
 injection e1 with e1
 injection e2 with e2
 injection e3 with e3
 have e3:rs.map Ru.enc=rs2.map Ru.enc:=e3
 have e1:n=n2:=e1
 have e2:w=w2:=e2
 subst e1 e2
 have:rs=rs2:=by
  refine (List.map_inj_right ?_).mp e3
  intro x y h
  have h':PyData.tuple [x.1.enc,x.2.enc]=.tuple [y.1.enc,y.2.enc]:=h
  injection h' with h'
  injection h' with a h'
  injection h' with b _
  exact Prod.ext (Gr.enc_inj a) (Gr.enc_inj b)
 rw [this]
theorem z8i {b c:Bk} (e:b.map Kd.kt=c.map Kd.kt):b=c:=(List.map_inj_right (fun _ _=>zj0)).mp e
theorem z6v:∀ {rs:List Ru} {zs:List V},TgAll K H zs (rs.map Ru.enc)->Bears K H Ru.enc zs rs
 | [],_,.nil=>.nil
 | r::rs,_,.cons h t=>by
  refine .cons ?_ (z6v t)
  cases (h:Tg K H _ (.tuple [r.1.enc,r.2.enc])) with
  | tup hs ha =>
   cases ha with
   | cons h1 ha =>
   cases ha with
   | cons h2 ha =>
   cases ha
   cases h1 with
   | tup a1 b1 =>
   cases h2 with
   | tup a2 b2=>exact .tup hs (.cons (.tup a1 (z45 r.1 b1)) (.cons (.tup a2 (z45 r.2 b2)) .nil))
def KdA (K:PySem.W.Frag) (H:Hp) (bad:List Addr) (v:V) (k:Kd):Prop:=∃ (t l:Addr) (zs:List V),v=.ref t/\SqT K H t [.str k.n,.bl k.w,.ref l]/\H l=some (.lst zs)/\Bears K H Ru.enc zs k.rs/\l ∉ bad
theorem ziz {k:Kd} {v:V} (h:KTA K H v k.kt):KdA K H [] v k:=by
 obtain ⟨t,x,y,z,e0,h1,h2,h3,l,zs,rfl,h5,h6⟩:=h
 have h3:y=.bl k.w:=h3
 subst h3
 cases h2
 exact ⟨t,l,zs,e0,h1,h5,z6v h6,nmn⟩
def NoLst (H:Hp) (bad ps:List Addr):Prop:=∀ p ∈ ps,p ∈ bad\/∀ xs,H p ≠ some (.lst xs)
theorem NoLst.nil {bad:List Addr}:NoLst H bad []:=fun _ z=>nomatch z
theorem NoLst.self {bad:List Addr}:NoLst H bad bad:=fun _ z=>.inl z
theorem KdA.sb {k:Kd} {v:V} {ps bad:List Addr} (h:KdA K H bad v k) (e:SB ps H H') (n:NoLst H bad ps):KdA K H' bad v k:=by
 obtain ⟨t,l,zs,e0,h1,h2,h3,h4⟩:=h
 exact ⟨t,l,zs,e0,e.sqT h1,e.keep _ _ h2 fun z=>(n _ z).elim h4 fun y=>y _ h2,h3.sb e Ru.noList_enc,h4⟩
inductive KdAll (K:PySem.W.Frag) (H:Hp) (bad:List Addr):List V->Bk->Prop
 | nil:KdAll K H bad [] []
 | cons {v:V} {k:Kd} {vs:List V} {b:Bk}:KdA K H bad v k->KdAll K H bad vs b->KdAll K H bad (v::vs) (k::b)
theorem KdAll.sb {ps bad:List Addr} (e:SB ps H H') (n:NoLst H bad ps):∀ {vs:List V} {b:Bk},KdAll K H bad vs b->KdAll K H' bad vs b
 | _,_,.nil=>.nil
 | _,_,.cons h t=>.cons (h.sb e n) (KdAll.sb e n t)
theorem KdAll.less {bad bad':List Addr} (hb:∀ x ∈ bad',x ∈ bad):∀ {vs:List V} {b:Bk},KdAll K H bad vs b->KdAll K H bad' vs b
 | _,_,.nil=>.nil
 | _,_,.cons ⟨t,l,zs,h1,h2,h3,h4,h5⟩ r=>.cons ⟨t,l,zs,h1,h2,h3,h4,fun z=>h5 (hb l z)⟩ (KdAll.less hb r)
theorem KdAll.append {bad:List Addr}:∀ {xs ys:List V} {bs cs:Bk},KdAll K H bad xs bs->KdAll K H bad ys cs->KdAll K H bad (xs++ys) (bs++cs)
 | _,_,_,_,.nil,h=>h
 | _,_,_,_,.cons a b,h=>.cons a (KdAll.append b h)
theorem KdAll.length {bad:List Addr}:∀ {vs:List V} {ts:Bk},KdAll K H bad vs ts->vs.length=ts.length
 | _,_,.nil=>rfl
 | _,_,.cons h t=>by rw [List.length_cons,List.length_cons,KdAll.length t]
theorem KdAll.get {bad:List Addr}:∀ {vs:List V} {ts:Bk} {i:Nat} {v:V},KdAll K H bad vs ts->vs[i]?=some v->∃ t,ts[i]?=some t/\KdA K H bad v t
 | _,_,i,v,.nil,h=>by simp at h
 | _,_,0,v,.cons h t,e=>by simp at e; subst e; exact ⟨_,rfl,h⟩
 | _,_,i+1,v,.cons h t,e=>by
  simp at e
  obtain ⟨t',e',h'⟩:=KdAll.get (i:=i) t e
  exact ⟨t',by simpa using e',h'⟩
theorem KTAll.kd:∀ {b:Bk} {vs:List V},KTAll K H vs (b.map Kd.kt)->KdAll K H [] vs b
 | [],_,.nil=>.nil
 | k::b,_,.cons h t=>.cons (ziz h) (KTAll.kd t)
theorem z6x {zs:List V}:∀ {rs:List Ru} {zs:List V},(∀ r ∈ rs,RuOk r)->Bears K H Ru.enc zs rs->TgAll K H zs (rs.map Ru.enc)
 | [],_,_,.nil=>.nil
 | r::rs,_,ok,.cons h t=>by
  refine .cons ?_ (z6x (zs:=zs) (fun x hx=>ok x (mcm _ hx)) t)
  obtain ⟨o1,o2,_⟩:=ok r (mcs ..)
  cases (h:Dp K H _ (.tuple [r.1.enc,r.2.enc])) with
  | tup hs ha =>
   cases ha with
   | cons h1 ha =>
   cases ha with
   | cons h2 ha =>
   cases ha
   exact .tup hs (.cons (z9l o1 h1) (.cons (z9l o2 h2) .nil))
theorem KdAll.kt {bad:List Addr}:∀ {b:Bk} {vs:List V},(∀ k ∈ b,z02 k.n/\∀ r ∈ k.rs,RuOk r)->KdAll K H bad vs b->KTAll K H vs (b.map Kd.kt)
 | [],_,_,.nil=>.nil
 | k::b,_,ok,.cons h t=>by
  refine .cons ?_ (KdAll.kt (fun x hx=>ok x (mcm _ hx)) t)
  obtain ⟨t,l,zs,e0,h1,h2,h3,_⟩:=h
  obtain ⟨o1,o2⟩:=ok k (mcs ..)
  exact ⟨t,_,_,_,e0,h1,.str _ (zb6 o1),rfl,l,zs,rfl,h2,z6x (zs:=zs) o2 h3⟩
theorem zdi {r:Ru} (h:RuOk r):zb0 (Ru.enc r):=by
 obtain ⟨h1,h2,h3⟩:=h
 have d1:=z0e r.1
 have d2:=z0e r.2
 have e1:=r.1.encs_depth
 have e2:=r.2.encs_depth
 obtain ⟨w1,w2⟩:=z3w r.1
 obtain ⟨w3,w4⟩:=z3w r.2
 refine ⟨?_,?_,fun a b e g hg=>?_⟩
 ·show PyData.depth (.tuple [.tuple r.1.encs,.tuple r.2.encs])<=60
  simp only [PyData.depth,PyData.depthAll]; omega
 ·show wide (.tuple [.tuple r.1.encs,.tuple r.2.encs])<=1000
  simp only [wide,z14,List.length_cons,List.length_nil]; omega
 ·have e':PyData.tuple [r.1.enc,r.2.enc]=.tuple [a,b]:=e
  injection e' with e'
  injection e' with ea e'
  injection e' with eb _
  rcases hg with hg | hg
  ·rw [<- ea] at hg; rw [<- Gr.enc_inj hg]; omega
  ·rw [<- eb] at hg; rw [<- Gr.enc_inj hg]; omega
theorem zco {k:Kd} (h:k.rs.length<=4/\∀ r ∈ k.rs,RuOk r):z91 k.kt:=by
 intro ds e
 have e:some (k.rs.map Ru.enc)=some ds:=e
 injection e with e
 subst e
 refine ⟨by rw [List.length_map]; omega,fun x hx=>?_⟩
 obtain ⟨r,hr,rfl⟩:=List.mem_map.mp hx
 exact zdi (h.2 r hr)
end
section
variable {J:It} {n:Nat} {G:Hp->Prop} {Y:Nat->Hp->V->Hp->Prop}
theorem zbl (w:Walk J n G Y) {g:TG} {tt:TT} {tk tv:TE} {vs:List Nat} {σ:L2.St} {H:Hp} {D:Addr} {Qd:Hp->Prop} (hD:H D=none) (hn:n < sizeLine) (R:Nat->List (Key × V)->Hp->Prop) (h0:R 0 [] H) (hG:∀ H2,SB [] H H2->G H2)
  (st:∀ i us H2 H3,SB [D] H2 H3->R i us H2->R i us H3)
  (turn:∀ (Pv:Hp->Prop) i x H2 H' kvs,i < n->SB [] H H2->Y i H2 x H'->R i kvs H2->kvs.length<=i->(∀ k z H5,SB [] H2 H5->R (i+1) (putK kvs k z) H5->∃ kvs k',kV k=kV k'/\H5 D=some (.dK kvs)/\kvs.length < sizeLine/\Pv (upd H5 D (.dK (putK kvs k' z)))) ->
   (∀ H4,SB [] H2 H4->R (i+1) kvs H4->Pv H4)->g x (wipe σ vs) H' fun σ2 H3=>wipe σ2 vs=wipe σ vs/\tt σ2 H3 fun b H4 =>
    if b=true then tk σ2 H4 fun y H5=>tv σ2 H5 fun z H6=>∃ kvs k,y=kV k/\H6 D=some (.dK kvs)/\kvs.length < sizeLine/\Pv (upd H6 D (.dK (putK kvs k z))) else Pv H4)
  (done:∀ kvs H2,SB [] H H2->H2 D=some (.dK kvs)->R n kvs H2->kvs.length<=n->Qd H2) :
  ∃ W:Nat->Nat->Hp->Prop,(∃ m,W 0 m (upd H D (.dK [])))/\∀ i m H,W i m H ->
   (J.stop i H/\Qd H)\/(J.go i H/\∃ Nx:Hp->Prop,(∀ H',Nx H'->∃ m',m' < m/\W (i+1) m' H')/\∀ x H',J.yld i H x H'->g x (wipe σ vs) H' fun σ2 H2=>wipe σ2 vs=wipe σ vs/\tt σ2 H2 fun b H3 =>
    if b=true then tk σ2 H3 fun y H4=>tv σ2 H4 fun z H5=>∃ kvs k,y=kV k/\H5 D=some (.dK kvs)/\kvs.length < sizeLine/\Nx (upd H5 D (.dK (putK kvs k z))) else Nx H3):=by
 refine lcG (body:=fun Nx x H'=>g x (wipe σ vs) H' fun σ2 H2=>wipe σ2 vs=wipe σ vs/\tt σ2 H2 fun b H3 =>
    if b=true then tk σ2 H3 fun y H4=>tv σ2 H4 fun z H5=>∃ kvs k,y=kV k/\H5 D=some (.dK kvs)/\kvs.length < sizeLine/\Nx (upd H5 D (.dK (putK kvs k z))) else Nx H3) w (fun i H2=>SB [D] H H2/\∃ kvs,H2 D=some (.dK kvs)/\R i kvs H2/\kvs.length<=i)
  ⟨SB.new hD _,[],upd_same,st _ _ _ _ (SB.new hD _) h0,Nat.le_refl _⟩ (fun i H2 _ h=>hG H2 (h.1.drop hD)) (fun i x H2 H' hi h y=>?_) (fun H2 h=>?_)
 ·obtain ⟨s2,kvs,hD2,hR,hl⟩:=h
  refine turn _ i x H2 H' kvs hi (s2.drop hD) y hR hl (fun k z H5 s5 r5=>?_) (fun H4 s4 r4=>⟨s2.trans s4.nil,kvs,s4.keep _ _ hD2 nmn,r4,by omega⟩)
  have hD5:=s5.keep _ _ hD2 nmn
  refine ⟨kvs,k,rfl,hD5,by omega,(s2.trans s5.nil).trans (SB.setD hD5 (by simp) _),_,upd_same,st _ _ _ _ (SB.setD hD5 (by simp) _) r5,?_⟩
  have:=length_putK kvs k z
  omega
 ·obtain ⟨s2,kvs,hD2,hR,hl⟩:=h
  exact done kvs H2 (s2.drop hD) hD2 hR hl
end
theorem z2g {kvs:List (Key × V)} {k:Key} {v:V} (h:∀ p ∈ kvs,p.1 ≠ k):putK kvs k v=kvs++[(k,v)]:=by
 unfold putK
 rw [if_neg]
 intro z
 obtain ⟨p,hp,e⟩:=List.any_eq_true.mp z
 exact h p hp (of_decide_eq_true e)
theorem Bk.nodup_at {b:Bk} (nd:b.names.Nodup) {i:Nat} {k:Kd} (h:b[i]?=some k):∀ j ∈ b.take i,j.n ≠ k.n:=by
 intro j hj e
 have e1:b.names=(b.take i).map (·.n)++(b.drop i).map (·.n):=by rw [<- List.map_append,List.take_append_drop]
 rw [e1] at nd
 exact (List.nodup_append.mp nd).2.2 j.n (List.mem_map.mpr ⟨j,hj,rfl⟩) k.n (List.mem_map.mpr ⟨k,List.mem_of_getElem? (i:=0) (by rw [List.getElem?_drop]; exact h),rfl⟩) e
theorem SB.setG {H:Hp} {p:Addr} {o:HO} {ps:List Addr} (h:H p=some o) (hp:p ∈ ps) (n1:∀ xs,o ≠ .tup xs) (n2:∀ u v,o ≠ .frz u v) (o':HO):SB ps H (upd H p o'):=by
 refine ⟨fun b u e n=>?_,fun b u e=>?_,fun b v u e=>?_,fun b e=>?_⟩
 ·rw [upd_ne (fun (z:b=p)=>n (by rw [z]; exact hp))]; exact e
 ·rw [upd_ne (fun (z:b=p)=>by subst z; rw [h] at e; exact n1 _ (Option.some.inj e))]; exact e
 ·rw [upd_ne (fun (z:b=p)=>by subst z; rw [h] at e; exact n2 _ _ (Option.some.inj e))]; exact e
 ·by_cases q:b=p
  ·subst q; rw [upd_same] at e; cases e
  ·rw [upd_ne q] at e; exact e
theorem z8o:∀ {b:Bk} {us:List V} {p:Key × V},p ∈ b.rowKV us->∃ j ∈ b,p.1=Sum.inr j.n
 | [],_,p,h=>by cases h
 | k::b,[],p,h=>by cases h
 | k::b,u::us,p,h=>by
  rcases List.mem_cons.mp (show p ∈ (Sum.inr k.n,u)::Bk.rowKV b us from h) with h | h
  ·exact ⟨k,mcs ..,by rw [h]⟩
  ·obtain ⟨j,hj,e⟩:=z8o h
   exact ⟨j,mcm _ hj,e⟩
def zkl (i j:Int):Prop:=0<=j/\j<=1000/\i.natAbs < 2 ^ 1000
theorem zgw {X:Cx}:OpR X (binaryOp .Pow) (rI zkl fun i j=>.int (i ^ j.toNat)):=opI fun i j _ _ _ _ _ hc q=>pow_int hc.1 (by
 obtain ⟨h0,h1,h2⟩:=hc
 have hb:Builtin.Int.intBits i<=1000:=intBits_le h2
 have h3:(Builtin.Int.intBits i:Int)*j<=1000*j:=Int.mul_le_mul_of_nonneg_right (by omega) h0
 omega) q
theorem z74:∀ r:Nat,r < 26->abc.cps.toList[r]?=some (97+r):=by
 have:∀ r:Fin 26,abc.cps.toList[r.val]?=some (97+r.val):=by decide +kernel
 intro r hr
 exact this ⟨r,hr⟩
theorem Ltr.mid {a b:Str} {n c:Nat} (ha:Ltr a n):(a++⟨#[c]⟩++b).cps.toList[n]?=some c:=by
 have e:(a++⟨#[c]⟩++b).cps.toList=a.cps.toList++(c::b.cps.toList):=by show (a.cps++#[c]++b.cps).toList=_; simp
 rw [e,List.getElem?_append_right (by rw [ha.1]; exact Nat.le_refl _),ha.1,Nat.sub_self]
 rfl
theorem nodup_range {α:Type} {F:Nat->α} {m:Nat} (h:∀ i j,i < m->j < m->i ≠ j->F i ≠ F j):((List.range m).map F).Nodup:=by
 refine List.pairwise_map.mpr (List.Pairwise.imp_of_mem (fun {i j} hi hj hn=>h i j (List.mem_range.mp hi) (List.mem_range.mp hj) hn) List.nodup_range)
section
variable {D:Ends} {σ:L2.St} {H:Hp} {t u:TS} {te:TE} {g:TG} {c:TT}
theorem z2s {f:L2.St->Hp->Prop} {r:VK} {b c':L2.St->Hp->Prop} (h:f σ H):tNext ⟨f,r,b,c'⟩ σ H:=h
theorem seqI (h:t { D with nx:=u D } σ H):tSeq t u D σ H:=h
theorem asgI (h:te σ H fun x H1=>g x σ H1 D.nx):tAsg te g D σ H:=h
theorem ifI (h:c σ H fun b H1=>if b=true then t D σ H1 else u D σ H1):tIfS c t u D σ H:=h
end
theorem z9a {zs:List Str} (h:∀ z ∈ zs,z02 z):SeqAt.shaped (.list (zs.map .str))=true:=by
 have h1:PyData.canLayAll0 (zs.map .str)=true:=by
  induction zs with
  | nil=>simp [PyData.canLayAll0]
  | cons z r ih =>
   rw [List.map_cons,PyData.canLayAll0,ih fun y hy=>h y (mcm _ hy)]
   simp [PyData.canLay0,Gr.strOk_name (h z (mcs ..))]
 have h2:PyData.depthAll (zs.map .str)=0:=by
  clear h1 h
  induction zs with
  | nil=>simp [PyData.depthAll]
  | cons z r ih=>rw [List.map_cons,PyData.depthAll,ih]; simp [PyData.depth]
 unfold SeqAt.shaped
 rw [PyData.canLay0,h1,Bool.true_and]
 exact decide_eq_true (by simp only [PyData.depth,h2]; omega)
section
variable {J:It} {n:Nat} {G:Hp->Prop} {Y:Nat->Hp->V->Hp->Prop}
theorem z66 (w:Walk J n G Y) (ps:List Addr) {g:TG} {tt:TT} {te:TE} {vs:List Nat} {σ:L2.St} {H:Hp} {D:Addr} {Qd:Hp->Prop} (hD:H D=none) (hps:∀ q ∈ ps,H q ≠ none) (hn:n < sizeLine) (R:Nat->List V->Hp->Prop) (h0:R 0 [] H) (hG:∀ H2,SB ps H H2->G H2)
  (st:∀ i us H2 H3,SB [D] H2 H3->R i us H2->R i us H3)
  (turn:∀ (Pv:Hp->Prop) i x H2 H' us,i < n->SB ps H H2->Y i H2 x H'->R i us H2->us.length<=i->H2 D=some (.lst us)->(∀ y H5,SB ps H2 H5->R (i+1) (us++[y]) H5->∃ acc,H5 D=some (.lst acc)/\acc.length < sizeLine/\Pv (upd H5 D (.lst (acc++[y])))) ->
   (∀ H4,SB ps H2 H4->R (i+1) us H4->Pv H4)->g x (wipe σ vs) H' fun σ2 H3=>wipe σ2 vs=wipe σ vs/\tt σ2 H3 fun b H4 =>
    if b=true then te σ2 H4 fun y H5=>∃ acc,H5 D=some (.lst acc)/\acc.length < sizeLine/\Pv (upd H5 D (.lst (acc++[y]))) else Pv H4)
  (done:∀ us H2,SB ps H H2->H2 D=some (.lst us)->R n us H2->us.length<=n->Qd H2) :
  ∃ W:Nat->Nat->Hp->Prop,(∃ m,W 0 m (upd H D (.lst [])))/\∀ i m H,W i m H ->
   (J.stop i H/\Qd H)\/(J.go i H/\∃ Nx:Hp->Prop,(∀ H',Nx H'->∃ m',m' < m/\W (i+1) m' H')/\∀ x H',J.yld i H x H'->g x (wipe σ vs) H' fun σ2 H2=>wipe σ2 vs=wipe σ vs/\tt σ2 H2 fun b H3 =>
    if b=true then te σ2 H3 fun y H4=>∃ acc,H4 D=some (.lst acc)/\acc.length < sizeLine/\Nx (upd H4 D (.lst (acc++[y]))) else Nx H3):=by
 have nD:D ∉ ps:=fun z=>hps D z hD
 have up:∀ {H1 H2:Hp},SB ps H1 H2->SB (D::ps) H1 H2:=fun e=>e.mono fun b hb=>mcm _ hb
 have up1:∀ {H1 H2:Hp},SB [D] H1 H2->SB (D::ps) H1 H2:=fun e=>e.mono fun b hb=>by rw [List.mem_singleton.mp hb]; exact mcs ..
 refine lc_it w (fun i H2=>SB (D::ps) H H2/\∃ us,H2 D=some (.lst us)/\R i us H2/\us.length<=i) ⟨SB.new hD _,[],upd_same,st _ _ _ _ (SB.new hD _) h0,Nat.le_refl _⟩ (fun i H2 _ h=>hG H2 (h.1.drop hD)) (fun i x H2 H' hi h y=>?_) (fun H2 h=>?_)
 ·obtain ⟨s2,us,hD2,hR,hl⟩:=h
  refine turn _ i x H2 H' us hi (s2.drop hD) y hR hl hD2 (fun y H5 s5 r5=>?_) (fun H4 s4 r4=>⟨s2.trans (up s4),us,s4.keep _ _ hD2 nD,r4,by omega⟩)
  have hD5:=s5.keep _ _ hD2 nD
  refine ⟨us,hD5,by omega,(s2.trans (up s5)).trans (SB.set hD5 (by simp) _),_,upd_same,st _ _ _ _ (SB.set hD5 (by simp) _) r5,?_⟩
  rw [List.length_append,List.length_singleton]; omega
 ·obtain ⟨s2,us,hD2,hR,hl⟩:=h
  exact done us H2 (s2.drop hD) hD2 hR hl
end
section
variable {K:PySem.W.Frag} {H H':Hp}
theorem z7d {α:Type} {enc:α->PyData}:∀ {vs:List V} {xs:List α},Bears K H enc vs xs->DpAll K H vs (xs.map enc)
 | _,_,.nil=>.nil
 | _,_,.cons h t=>.cons h (z7d t)
end
theorem z50 {n:Nat}:∀ {ds:List PyData},(∀ d ∈ ds,d.depth<=n)->PyData.depthAll ds<=n
 | [],_=>by simp [PyData.depthAll]
 | d::ds,h=>by
  have h1:=h d (mcs ..)
  have h2:=z50 fun x hx=>h x (mcm _ hx)
  rw [PyData.depthAll]; omega
theorem zbp {d:PyData} (h:plS d=true) (hd:d.depth<=64):SeqAt.shaped d=true:=by
 unfold SeqAt.shaped
 rw [zai d h,Bool.true_and]
 exact decide_eq_true hd
open TL (tl)
theorem z8d {t rest:TS} {D:Ends} {σ:L2.St} {H:Hp} (R:L2.St->Hp->Prop) (h:∀ nx:L2.St->Hp->Prop,(∀ σ' H',R σ' H'->nx σ' H')->t { D with nx:=nx } σ H) (k:∀ σ' H',R σ' H'->rest D σ' H'):tSeq t rest D σ H:=h (rest D) k
theorem z1y {i:Nat} {v:V} {σ:L2.St} {H:Hp} {f:L2.St->Hp->Prop} {r:VK} {b c:L2.St->Hp->Prop} (h:f (σ.set i (some v)) H):gName i v σ H (Ends.mk f r b c).nx:=h
abbrev za4 (K:PySem.W.Frag):List V->Hp->VK->Prop:=fun xs H Q=>∃ p ys,xs=[.ref p]/\(SqL K H p ys\/SqT K H p ys)/\∀ l,H l=none->Q (.ref l) (upd H l (.lst ys))
theorem Bk.Ok.two {b:Bk} (ok:b.Ok):∀ k ∈ b,k.rs.length<=4/\∀ r ∈ k.rs,RuOk r:=fun k hk=>⟨(ok.kd k hk).2.1,fun r hr=>((ok.kd k hk).2.2 r hr).1⟩
theorem Bk.Ok.three {b:Bk} (ok:b.Ok):∀ k ∈ b,z02 k.n/\∀ r ∈ k.rs,RuOk r:=fun k hk=>⟨(ok.kd k hk).1,(ok.two k hk).2⟩
theorem zbg {K:PySem.W.Frag} {C B:Addr} {b:Bk} {H:Hp} {l:Addr} {xs:List V} {bad:List Addr} {Q:VK} {E:XK} (hl:H l=some (.lst xs)) (ha:KdAll K H bad xs b) (ok:b.Ok) (k:∀ y H',SB [] H H'->H y=none->BkA K C H' (.ref y) b->Q (.ref y) H') :
  ∀ y dx,H y=none->H dx=none->dx ≠ y->z3c K C B (.ref y::[.ref l]) (upd (upd H dx (.own y)) y (.ins C dx [])) (fun v H2=>v=.non/\Q (.ref y) H2) E:=by
 intro y dx hy hdx hne
 have b8:=ok.len
 have hy':upd H dx (.own y) y=none:=by rw [upd_ne (fun z=>hne z.symm)]; exact hy
 have t4:=(SB.new (ps:=[]) hdx (.own y)).trans (SB.new hy' (.ins C dx []))
 have hdx4:upd (upd H dx (.own y)) y (.ins C dx []) dx=some (.own y):=by rw [upd_ne hne,upd_same]
 have hx4:upd (upd H dx (.own y)) y (.ins C dx []) y=some (.ins C dx []):=upd_same
 refine ⟨y,dx,l,xs,b.map Kd.kt,rfl,hx4,hdx4,t4.keep _ _ hl nmn,(ha.sb t4 NoLst.nil).kt ok.three,fun t ht=>?_,by rw [List.length_map]; omega,fun b' e ok' H5 s5 hbk=>?_,fun z=>absurd ⟨b,rfl,ok⟩ z⟩
 ·obtain ⟨k,hk,rfl⟩:=List.mem_map.mp ht
  exact zco (ok.two k hk)
 ·have e:=z8i e
  subst e
  exact ⟨rfl,k y H5 (((t4.nil (ps:=[y])).trans s5).drop hy) hy hbk⟩
theorem zbj {x:Int} {a b:Nat} (h:x.natAbs < 2 ^ a) (hb:a<=b) (h0:0 < a):x.natAbs.log2 < b:=by
 by_cases e:x.natAbs=0
 ·rw [e]; simp [Nat.log2_zero]; omega
 ·exact Nat.lt_of_lt_of_le ((Nat.log2_lt e).mpr h) hb
open PySem.Froz (SD sObj TxOk addTx tailTx)
structure TxS (P:Program) (w:World) (D:SD) (l:List Str):Prop where
 ok:TxOk P w D l
 nd:l.Nodup
 ris:Ris D.2.2.place.toList
 led:w.params.followText "set-order"=true\/D.2.2.led=true
def insS (k:Str) (l:List Str):List Str:=if k ∈ l then l else k::l
section
variable {P:Program} {w:World} {A:Around} {E:Value->Shared->Prop} {s:Shared} {D:SD} {l:List Str} {k:Str} {u:Tok} {a:Addr} {T:String}
theorem zc8 {es:Array (Int × Value)} {ep:Nat} {t:SetTable} {b:Bool} (r:Ris t.place.toList) (d:w.params.followText "set-order"=true\/t.led=true) :
  Ris (tailTx ep es t b).2.2.place.toList/\(w.params.followText "set-order"=true\/(tailTx ep es t b).2.2.led=true):=by
 unfold tailTx
 split
 ·exact ⟨relayAll_ris ..,d.imp id fun z=>by rw [relayAll_led]; exact z⟩
 ·exact ⟨r,d⟩
theorem TxS.add (F:TxS P w D l) (hk:k ∉ l):TxS P w (addTx (hashStr w k) (.str k u) D) (k::l):=by
 obtain ⟨es,ep,t⟩:=D
 have r1:=layNew_ris t es (hashStr w k) (.str k u) F.ris
 have d1:=F.led.imp id fun z=>(layNew_led t es (hashStr w k) (.str k u)).trans z
 have key:∀ t':SetTable,t'.place=(layNew t es (hashStr w k) (.str k u)).2.1.place->t'.led=(layNew t es (hashStr w k) (.str k u)).2.1.led->∀ es' b,Ris (tailTx ep es' t' b).2.2.place.toList/\(w.params.followText "set-order"=true\/(tailTx ep es' t' b).2.2.led=true) :=
  fun t' e1 e2 es' b=>zc8 (by rw [e1]; exact r1) (by rw [e2]; exact d1)
 have z:=key (if (layNew t es (hashStr w k) (.str k u)).2.1.plain=true then { (layNew t es (hashStr w k) (.str k u)).2.1 with plain:=false } else (layNew t es (hashStr w k) (.str k u)).2.1) (by split <;> rfl) (by split <;> rfl) (layNew t es (hashStr w k) (.str k u)).1 (layNew t es (hashStr w k) (.str k u)).2.2.1
 exact ⟨PySem.Froz.add_ok u F.ok,List.nodup_cons.mpr ⟨hk,F.nd⟩,z.1,z.2⟩
theorem zci {Q:Bool->Shared->Prop} (ho:s.heap.get? a=some (sObj T D)) (F:TxOk P w D l) (hk:k ∈ l) (hb:l.length < scanBound) (h:Q false s):wpAny (model P w) A (setAddHashed a (.str k u) (hashStr w k)) Q E s:=by
 obtain ⟨es,ep,t⟩:=D
 have hd:(sObj T (es,ep,t)).data=.set es ep t:=rfl
 have hel:ElemsOf (strKind P w) es.toList:=F.el
 have hsz:es.size=l.length:=F.sz
 have is0:(strKind P w).is k (.str k u)=true:=PySem.Froz.is_str k u
 obtain ⟨j,hj⟩:∃ j,List.findIdx? (fun e=>(strKind P w).is k e.2) es.toList=some j:=by
  cases e:List.findIdx? (fun e=>(strKind P w).is k e.2) es.toList with
  | some j=>exact ⟨j,rfl⟩
  | none =>
   obtain ⟨x,hx,hi⟩:=(F.mem k).mp hk
   have:=List.findIdx?_eq_none_iff.mp e x hx
   rw [hi] at this
   cases this
 unfold setAddHashed setAddHashedIn
 refine wpAny_holding (wpAny_bind (wpAny_setState_of ho hd F.fit ?_))
 dsimp only
 rw [byScan_of rfl (by rw [hsz]; exact hb) hel]
 simp only [↓reduceIte]
 unfold setAddByScan
 refine wpAny_bind (wpAny_bind (wpAny_rule (wpAny_bind (wpAny_setScan_of (knd:=strKind P w) (k:=k) is0 ho hd F.fit hel ?_))))
 rw [hj]
 exact wpAny_pure (wpAny_pure h)
theorem zh0 {Q:Bool->Shared->Prop} (ho:s.heap.get? a=some (sObj T D)) (F:TxS P w D l) (hb:l.length+1 < scanBound)
  (h:∀ (b:Bool) (h':Heap) (D':SD),Heap.SameBut a s.heap h'->h'.get? a=some (sObj T D')->TxS P w D' (insS k l)->Q b { s with heap:=h' }):wpAny (model P w) A (setAddHashed a (.str k u) (hashStr w k)) Q E s:=by
 by_cases hk:k ∈ l
 ·refine zci ho F.ok hk (by omega) (h false s.heap D (Heap.SameBut.refl a s.heap) ho ?_)
  unfold insS
  rw [if_pos hk]
  exact F
 ·refine PySem.Froz.add_x ho F.ok hk hb (h true _ _ (Heap.SameBut.update ..) (PySem.Froz.get_upd _ ho rfl) ?_)
  unfold insS
  rw [if_neg hk]
  exact F.add hk
end
section
variable {P:Program} {w:World} {A:Around} {E:Value->Shared->Prop} {s:Shared} {D:SD} {l:List Str} {k:Str} {u:Tok} {a:Addr}
theorem zdb {Q:Value->Shared->Prop} (ho:s.heap.get? a=some (sObj "set" D)) (F:TxS P w D l) (hb:l.length+1 < scanBound)
  (h:∀ (h':Heap) (D':SD),Heap.SameBut a s.heap h'->h'.get? a=some (sObj "set" D')->TxS P w D' (insS k l)->Q .none { s with heap:=h',toks:=s.toks+1 }):wpAny (model P w) A (call (.builtin "set.add") [.ref a,.str k u]) Q E s:=by
 refine wpAny_call_entry PySem.F.slot_set_add ⟨_,ho,rfl⟩ PySem.F.entry_set_add ?_ (PySem.F.args_set_add_2 _ _)
 unfold Builtin.«set.add» Builtin.Frozenset.oneOther
 simp only [List.isEmpty_nil,bind_assoc]
 unfold Builtin.Frozenset.addrOf setAdd
 refine wpAny_bind (wpAny_pure ?_)
 try dsimp only
 refine wpAny_bind (wpAny_pure ?_)
 try dsimp only
 refine wpAny_bind (wpAny_holding (wpAny_bind ((strKind P w).pyHash (k:=k) (PySem.Froz.is_str k u) ?_)))
 refine zh0 (s:={ s with toks:=s.toks+1 }) ho F hb fun b h' D' sb o' F'=>?_
 refine (?_:wpAny (model P w) _ (ret Value.none) _ E _)
 exact wpAny_pure ⟨_,rfl,h h' D' sb o' F'⟩
end
def SetSO (P:Program) (w:World) (a:Addr) (l:List Str):HO:=.ext fun h=>∃ D:SD,h.get? a=some (sObj "set" D)/\TxS P w D l
theorem z8r {P:Program} {w:World} {H:Hp} {h:Heap} {a:Addr} {l:List Str} {D:SD} (ho:h.get? a=some (sObj "set" D)) (F:TxS P w D l):ObjOk P w H h a (SetSO P w a l) :=
 ⟨⟨D,ho,F⟩,⟨_,ho⟩,fun h1 h2 ⟨D',q,F'⟩ k=>⟨D',k _ q,F'⟩⟩
section
variable {X:Cx} {pins:List (Addr × Obj)} {σ:L2.St} {H:Hp} {s:Shared} {l:List Str}
theorem z8u {a:Addr} (I:Inv X pins σ H s) (ha:H a=some (SetSO X.prog X.w a l)):∃ D:SD,s.heap.get? a=some (sObj "set" D)/\TxS X.prog X.w D l:=(I.hok a _ ha).1
theorem zgs {E:Value->Shared->Prop} {a:Addr} {k:Str} {u:Tok} {Q:Value->Shared->Prop} (I:Inv X pins σ H s) (ha:H a=some (SetSO X.prog X.w a l)) (room:l.length+1 < scanBound)
  (h:∀ s',Inv X pins σ (upd H a (SetSO X.prog X.w a (insS k l))) s'->Q .none s'):wpAny (model X.prog X.w) X.A (call (.builtin "set.add") [.ref a,.str k u]) Q E s:=by
 obtain ⟨D,ho,F⟩:=z8u I ha
 refine zdb ho F room fun h' D' sb o' F'=>?_
 exact h _ (I.write (e:=a) (t':=s.toks+1) (by rw [ha]; trivial) (.inl rfl) (fun b o hb hu=>(sb.2 b hb).trans hu) ⟨_,o'⟩ (z8r o' F'))
end
theorem zc5 (P:Program) (w:World):TxS P w (#[],0,.fresh 0 0 (!w.params.followText "set-order")) []:=by
 refine ⟨PySem.Froz.TxOk.nil rfl,List.nodup_nil,List.Pairwise.nil,?_⟩
 show _\/(!w.params.followText "set-order")=true
 cases w.params.followText "set-order"
 ·exact .inr rfl
 ·exact .inl rfl
theorem z9b {P:Program} {w:World} {k:Str} {v:Value} (h:(strKind P w).is k v=true):∃ tk,v=Value.str k tk:=by
 have h:Value.isStrOf k v=true:=h
 cases v <;> simp [Value.isStrOf] at h
 exact ⟨_,by rw [h]⟩
theorem zaa:∀ (l:List Value),(∀ v ∈ l,∃ k tk,v=Value.str k tk)->∃ ss:List Str,StrsAre l ss/\∀ k,k ∈ ss ↔ ∃ v ∈ l,∃ tk,v=Value.str k tk
 | [],_=>⟨[],.nil,fun k=>by simp⟩
 | v::r,h=>by
  obtain ⟨k,tk,rfl⟩:=h v (mcs ..)
  obtain ⟨ss,h1,h2⟩:=zaa r fun x hx=>h x (mcm _ hx)
  refine ⟨k::ss,.cons k tk h1,fun j=>?_⟩
  rw [List.mem_cons,h2 j]
  refine ⟨fun z=>?_,fun ⟨x,hx,t',e⟩=>?_⟩
  ·rcases z with rfl | ⟨x,hx,e⟩
   ·exact ⟨_,mcs ..,tk,rfl⟩
   ·exact ⟨x,mcm _ hx,e⟩
  ·rcases List.mem_cons.mp hx with q | q
   ·rw [q] at e; cases e; exact .inl rfl
   ·exact .inr ⟨x,q,t',e⟩
theorem zab {α:Type}:∀ {a b:List α},b.Nodup->a.length=b.length->(∀ k,k ∈ b->k ∈ a)->a.Perm b
 | a,[],_,hl,_=>by
  have:a=[]:=List.eq_nil_of_length_eq_zero hl
  rw [this]
 | a,x::b,nd,hl,hm=>by
  obtain ⟨p,q,e⟩:=List.append_of_mem (hm x (mcs ..))
  subst e
  obtain ⟨n1,n2⟩:=List.nodup_cons.mp nd
  have ih:=zab (a:=p++q) (b:=b) n2 (by simp at hl ⊢; omega) fun k hk=>by
   have hx:k ≠ x:=fun z=>n1 (z ▸ hk)
   have:=hm k (mcm _ hk)
   simp only [List.mem_append,List.mem_cons] at this ⊢
   rcases this with z | z | z
   ·exact .inl z
   ·exact absurd z hx
   ·exact .inr z
  exact List.perm_middle.trans (ih.cons x)
section
variable {P:Program} {w:World} {A:Around} {E:Value->Shared->Prop} {s:Shared} {D:SD} {l:List Str} {a:Addr}
theorem zat {Q:Value->Shared->Prop} (hh:A.handled=none) (ho:s.heap.get? a=some (sObj "set" D)) (F:TxS P w D l) (h64:l.length < 64)
  (h:∀ (s':Shared) (p:Addr) (out:Array Value) (c:Nat) (ss:List Str),(∀ b o,s.heap.get? b=some o->s'.heap.get? b=some o)->s'.gens=s.gens->s'.os=s.os->s.heap.objs.size<=p->s'.heap.get? p=some (seqObj "list" out c)->StrsAre out.toList ss->ss.Perm l->sortedS ss=true->Q (.ref p) s') :
  wpAny (model P w) A (call (.builtin "sorted") [.ref a]) Q E s:=by
 obtain ⟨es,ep,t⟩:=D
 have hsz:es.size=l.length:=F.ok.sz
 have hsc:es.size < scanBound:=by rw [hsz]; unfold scanBound; omega
 refine Calls.call_function_entry kind_sorted plain_sorted entry_sorted (args_sorted1 _) ?_
 unfold Builtin.«sorted»
 refine wpAny_bind (m:=checkCount "sorted" 1 1 _) (wpAny_pure ?_)
 refine wpAny_bind (collect_set (A:=A.in1) hh ⟨_,ho,rfl,rfl⟩ F.ok.fit hsc F.ris F.led fun s1 vs k1 z1 g1 o1 pm=>?_)
 have vl:vs.length=l.length:=by rw [pm.length_eq,List.length_map,Array.length_toList,hsz]
 have shape:∀ v ∈ vs,∃ k tk,v=Value.str k tk:=fun v hv=>by
  obtain ⟨e,he,rfl⟩:=List.mem_map.mp (pm.mem_iff.mp hv)
  obtain ⟨⟨k,hk,_⟩,_⟩:=F.ok.el e he
  obtain ⟨tk,q⟩:=z9b hk
  exact ⟨k,tk,q⟩
 obtain ⟨ss,hS,hmem⟩:=zaa vs shape
 have hp:ss.Perm l:=by
  refine zab F.nd (by rw [<- hS.length]; exact vl) fun k hk=>?_
  obtain ⟨e,he,hi⟩:=(F.ok.mem k).mp hk
  obtain ⟨tk,q⟩:=z9b hi
  exact (hmem k).mpr ⟨e.2,pm.mem_iff.mpr (List.mem_map_of_mem he),tk,q⟩
 refine wpAny_bind (wpAny_newList ?_ (by rw [vl,sizeLine_eq]; omega))
 have at1:(s1.heap.push (seqObj "list" vs.toArray 0)).get? s1.heap.objs.size=some (seqObj "list" vs.toArray 0):=Heap.get?_push_size _ rfl
 refine wpAny_bind (wpAny_holding (wpAny_call_entry slot_list_sort ⟨_,at1,rfl⟩ entry_list_sort (list_sort_treeK strKind_oneLt at1 hS.keysOf (fun v1 v2 r e=>keyKind_strs (by rw [<- e]; exact hS)) (by rw [vl]; exact h64) fun st' p1 p2=>⟨_,rfl,?_⟩) (args_list_sort _)))
 obtain ⟨ss',q1,q2,q3⟩:=sorted_out_str hS p1 p2
 obtain ⟨c,hc⟩:=sortedHeap_at (vs:=vs) (out:=(arrOf st').map (·.2)) at1
 refine wpAny_pure ⟨_,rfl,h _ s1.heap.objs.size _ c ss' (fun b o e=>?_) g1 o1 z1 hc q1 (q2.trans hp) q3⟩
 have e1:=k1 b o e
 have lt:=Heap.lt_size e1
 show (sortedHeap (s1.heap.push (seqObj "list" vs.toArray 0)) s1.heap.objs.size vs _).get? b=some o
 rw [sortedHeap_old (Nat.ne_of_lt lt) (by rw [size_push']; exact Nat.lt_succ_of_lt lt)]
 exact Heap.get?_push_of_some _ e1
end
section
variable {X:Cx}
def zch (P:Program) (w:World):List V->Hp->VK->Prop:=fun vs H Q=>∃ (a:Addr) (l:List Str),vs=[.ref a]/\H a=some (SetSO P w a l)/\l.length < 64/\∀ (ss:List Str) (p:Addr),ss.Perm l->sortedS ss=true->H p=none->Q (.ref p) (upd H p (.lst (ss.map V.str)))
theorem z6s (hc:X.calm=true):CallR X (.builtin "sorted") (zch X.prog X.w):=by
 intro pins s σ H vs us Q I r h
 obtain ⟨a,l,rfl,ha,h64,q⟩:=h
 obtain ⟨D,ho,F⟩:=z8u I ha
 rw [Vals.ref1 r]
 refine zat (I.ok.hd hc) ho F h64 fun s' p out c ss kp eg eo hp at' hS pm srt=>?_
 have hn:H p=none:=I.hok.fresh hp
 have hz:(ss.map V.str).length<=sizeLine:=by rw [List.length_map,pm.length_eq,sizeLine_eq]; omega
 obtain ⟨h',g',d',tk',os'⟩:=s'
 have eo:os'=s.os:=eo
 subst eo
 exact ⟨.ref p,upd H p (.lst (ss.map V.str)),I.call (ch:=[]) (Un.laid kp hp hn) (I.hok.laid kp hp ⟨hz,out.toList,c,vals_of_strs hS,at'⟩) (by rw [show g'=s.gens from eg]; exact I.bare) (fun _ z=>nomatch z),rfl,q ss p pm srt hn⟩
end
section
variable {X:Cx}
def tScS (P:Program) (w:World) (wi:TI) (g:TG) (tt:TT) (te:TE) (vs:List Nat):TE:=fun σ H Q=>wi σ H fun J H1=>∀ D,H1 D=none->∃ W:Nat->Nat->Hp->Prop,(∃ m,W 0 m (upd H1 D (SetSO P w D [])))/\∀ i m Hi,W i m Hi ->
 (J.stop i Hi/\Q (.ref D) Hi)\/(J.go i Hi/\∃ Nx:Hp->Prop,(∀ H',Nx H'->∃ m',m' < m/\W (i+1) m' H')/\∀ x H',J.yld i Hi x H'->g x (wipe σ vs) H' fun σ2 H2=>wipe σ2 vs=wipe σ vs/\tt σ2 H2 fun b H3 =>
  if b=true then te σ2 H3 fun y H4=>∃ (z:Str) (l:List Str),y=.str z/\H4 D=some (SetSO P w D l)/\l.length+1 < scanBound/\Nx (upd H4 D (SetSO P w D (insS z l))) else Nx H3)
theorem zc7 {elt tg iter:Expr} {ifs:List Expr} {scope:Scope} {own:List (PySem.Str × Nat)} {pos:Pos} {wi:TI} {g:TG} {tt:TT} {te:TE} (hc:X.calm=true) (hN:X.N.Nodup) (hi:PI X tg iter wi) (ok:BlkOk X.N X.env.scope scope own)
  (hg:∀ (s1:Shared) (H1:Hp) (C:Addr) (cl:List (PySem.Str × Addr)) (fp:List Addr),L2.PG (X.blk s1 H1 scope (compEnvC scope cl C X.env) fp) tg g) (ht:∀ (s1:Shared) (H1:Hp) (C:Addr) (cl:List (PySem.Str × Addr)) (fp:List Addr),L2.PTs (X.blk s1 H1 scope (compEnvC scope cl C X.env) fp) ifs tt)
  (he:∀ (s1:Shared) (H1:Hp) (C:Addr) (cl:List (PySem.Str × Addr)) (fp:List Addr),L2.PE (X.blk s1 H1 scope (compEnvC scope cl C X.env) fp) elt te) (hs:∀ x,foldedSetIterable iter X.env x=pure x:=by intro _; rfl) :
  PE X (.SetComp elt [⟨tg,iter,ifs,0⟩] scope pos) (tScS X.prog X.w wi g tt te (own.map (·.2))):=by
 refine ⟨fun pins s σ H Q I h=>?_⟩
 rw [PpSet.eval_SetComp]
 have clo:∀ y ∈ scope.names,y.2=.free->∃ c,X.env.cells.lookup y.1=some c:=fun y hy e=>(ok.free y hy e).elim (fun k=>I.ok.has _ (.inl k)) fun k=>I.ok.has _ (.inr k)
 refine wpAny_comprehension_free (use:=none) rfl hs (closure_ok clo) ok.kind (fun y hy e=>by rw [ok.uniq y hy,e]) (thn (hi.run pins s σ H _ I h) fun xv s1 hx=>thn hx fun itv s2 got=>?_)
 obtain ⟨it,fp,tn,J,Ha,e0,Ia,Tn,sta,fpa,walk⟩:=got
 subst e0
 refine PpSet.newSet_ok (newEnv_comp ?_)
 -- the new set,at the heap's end
 generalize eD:s2.heap.objs.size=D
 have freeD:Ha D=none:=Ia.hok.fresh (Nat.le_of_eq eD)
 obtain ⟨W,⟨m0,w0⟩,turn⟩:=walk D freeD
 generalize eb:({ s2 with heap:=s2.heap.push { cls:=.type "set",dict:=none,data:=.set #[] 0 (.fresh 0 0 (!X.w.params.followText "set-order")) } }:Shared)=sb
 have hpb:sb.heap=s2.heap.push { cls:=.type "set",dict:=none,data:=.set #[] 0 (.fresh 0 0 (!X.w.params.followText "set-order")) }:=by rw [<- eb]
 have Ib:Inv X pins σ (upd Ha D (SetSO X.prog X.w D [])) sb:=by
  rw [<- eb]
  refine Ia.laid (t':=s2.toks) (fun b o e=>Heap.get?_push_of_some _ e) (Nat.le_of_eq eD) ?_
  rw [<- eD]
  exact z8r (Heap.get?_push_size _ rfl) (zc5 X.prog X.w)
 have low:∀ b ∈ fp,b < s2.heap.objs.size:=fun b hb=>let ⟨o,e,_⟩:=Tn.obj _ _ sta b hb; Heap.lt_size e
 have fpb:∀ b ∈ fp,FpOk X pins (upd Ha D (SetSO X.prog X.w D [])) b/\b < sb.heap.objs.size:=fun b hb=>by
  refine ⟨⟨?_,(fpa b hb).2⟩,by rw [hpb,Heap.size_push]; exact Nat.lt_succ_of_lt (low b hb)⟩
  rw [upd_ne (by rw [<- eD]; exact Nat.ne_of_lt (low b hb))]
  exact (fpa b hb).1
 have stb:tn 0 sb.heap:=Tn.keep _ _ _ sta fun b _ o e=>by rw [hpb]; exact Heap.get?_push_of_some _ e
 have Ic:=block_start Ib ok hN fpb
 generalize eHb:upd Ha D (SetSO X.prog X.w D [])=Hb at Ib Ic w0 fpb
 have pg:=hg sb Hb sb.heap.objs.size (cellsFrom (sb.heap.objs.size+1) scope.names (cloFrom X.env.cells scope.names [])) fp
 have pt:=ht sb Hb sb.heap.objs.size (cellsFrom (sb.heap.objs.size+1) scope.names (cloFrom X.env.cells scope.names [])) fp
 have pe:=he sb Hb sb.heap.objs.size (cellsFrom (sb.heap.objs.size+1) scope.names (cloFrom X.env.cells scope.names [])) fp
 show codeAny (model X.prog X.w) X.A (.compStart (.SetComp elt [⟨tg,iter,ifs,0⟩] scope pos) 0 (.ref it) (.ref D) (compEnvC scope (cellsFrom (sb.heap.objs.size+1) scope.names (cloFrom X.env.cells scope.names [])) sb.heap.objs.size X.env)) (compPost (model X.prog X.w) X.A X.xe none (EP X pins σ Q) (.ref D) sb.heap.objs.size) { sb with heap:=pushCells (sb.heap.push { cls:=.type "dict",data:=.dict #[] }) scope.names }
 have noneF:∀ b ∈ fp,Hb b=none:=fun b hb=>(fpb b hb).1.1
 generalize ece:compEnvC scope (cellsFrom (sb.heap.objs.size+1) scope.names (cloFrom X.env.cells scope.names [])) sb.heap.objs.size X.env=ce at Ic pg pt pe ⊢
 have ecl:ce.locals=sb.heap.objs.size:=by subst ece; rfl
 generalize esc:({ sb with heap:=pushCells (sb.heap.push { cls:=.type "dict",data:=.dict #[] }) scope.names }:Shared)=sc at Ic ⊢
 have stc:tn 0 sc.heap:=Tn.keep _ _ _ stb fun b _ o e=>by rw [<- esc]; exact pushCells_keeps _ _ _ _ (Heap.get?_push_of_some _ e)
 -- the block's context
 let XB:Cx:=X.blk sb Hb scope ce fp
 have still:∀ {τ:L2.St} {G:Hp} {t:Shared},Inv XB [] τ G t->(∀ b ∈ fp,G b=none)->∀ b ∈ fp,FpOk XB [] G b:=fun {τ G t} I' hn b hb =>
  ⟨hn b hb,(I'.ok.exf b hb).1,I'.ok.exfs b hb,.inl hb,fun x c e=>(I'.ok.exf b hb).2 x c e,fun p hp=>absurd (show p ∈ ([]:List (Addr × Obj))++[] from hp) (by simp)⟩
 have loop:codeAny (model X.prog X.w) X.A (.compLoop (.SetComp elt [⟨tg,iter,ifs,0⟩] scope pos) 0 (.ref it) (.ref D) ce) (compPost (model X.prog X.w) X.A X.xe none (EP X pins σ Q) (.ref D) sb.heap.objs.size) sc:=by
  refine PpSet.compLoopS_any (fun n t=>∃ i G,Inv XB [] (wipe σ (own.map (·.2))) G t/\tn i t.heap/\(∀ b ∈ fp,G b=none)/\W i n G) ?_ m0 ⟨0,Hb,Ic,stc,noneF,w0⟩
  rintro n t ⟨i,G,It,stt,nt,wt⟩
  rcases turn i n G wt with ⟨ends,qq⟩ | ⟨goes,Nx,hNx,step⟩
  ·refine thnF (Tn.done XB rfl rfl rfl hc i [] t _ G (fun _ _=>False) It (still It nt) stt ends) fun r t6 ⟨er,I6⟩=>?_
   subst er
   have I7:Inv X pins σ G t6:=Ib.call' (ch:=fp) I6.os I6.base I6.hok I6.bare fun b hb=>⟨(fpb b hb).1.2.2.2.1,(fpb b hb).1.2.1,(fpb b hb).1.2.2.2.2.1,(fpb b hb).1.2.2.2.2.2⟩
   have nC:G sb.heap.objs.size=none:=ecl ▸ (show G ce.locals=none from I6.free)
   obtain ⟨m,hn,_⟩:=I6.loc
   have hn:t6.heap.Ns sb.heap.objs.size m:=ecl ▸ (show t6.heap.Ns ce.locals m from hn)
   obtain ⟨f0,f1,f2,f3,f4,f5⟩:=Ib.fpOk (Nat.le_refl _) nC
   exact ⟨m,hn,fun h'' same=>⟨.ref D,G,I7.turned (t':=t6.toks) (fun b o hb e=>(same.2 b hb).trans e) f0 f1 f3 f4 f5,rfl,qq⟩⟩
  ·refine thnF (Tn.item XB rfl rfl rfl hc i [] t _ G (fun _ _=>False) It (still It nt) stt goes) fun r t6 ⟨u,er,h6⟩=>?_
   subst er
   refine thnF h6 fun _ t7 ⟨x,G7,I7,r7,y7,st7,n7⟩=>?_
   have P7:=I7.pinned (still I7 n7) (Tn.obj _ _ st7)
   refine thnF (pg.run _ t7 _ G7 x u _ P7 r7 (step x G7 y7)) fun _ t8 ⟨τ,G8,I8,hw,q8⟩=>?_
   refine thnF (pt.run _ t8 τ G8 _ I8 q8) fun b t9 ⟨G9,I9,q9⟩=>?_
   have back:∀ {t':Shared} {G':Hp},Inv XB ([]++pinsAt fp t7.heap) τ G' t'->Nx G'->∃ m,m < n/\∃ i G,Inv XB [] (wipe σ (own.map (·.2))) G t'/\tn i t'.heap/\(∀ b ∈ fp,G b=none)/\W i m G:=fun {t' G'} I' nx=>by
    obtain ⟨m',hm,w'⟩:=hNx G' nx
    have keep:∀ b ∈ fp,∀ o,t7.heap.get? b=some o->t'.heap.get? b=some o/\G' b=none:=fun b hb o e =>
     have z:=I'.pin (b,o) (mar _ (mar _ (mem_pinsAt hb e)))
     ⟨z.1,z.2.1⟩
    refine ⟨m',hm,i+1,G',(I'.unpinned (pins:=[])).weak (by rw [<- hw,wipe_length]) (fun j v e=>(wipe_some (hw ▸ e)).1),Tn.keep _ _ _ st7 fun b hb o e=>(keep b hb o e).1,fun b hb=>?_,w'⟩
    obtain ⟨o,e,_⟩:=Tn.obj _ _ st7 b hb
    exact (keep b hb o e).2
   cases b with
   | false=>exact back I9 q9
   | true =>
    refine thnF (pe.run _ t9 τ G9 _ I9 q9) fun z t10 ⟨yv,G10,I10,r10,zz,l0,ey,hD10,room,nx⟩=>?_
    subst ey
    obtain ⟨tk,rfl⟩:=r10
    exact zgs (X:=XB) I10 hD10 room fun t11 I11=>back I11 nx
 exact PpSet.codeAny_compStart_set loop (Tn.self X.A 0 _ _ _ stc loop)
end
open PySem.Froz (SD sObj TxOk addTx tailTx)
theorem z9n {k x:Str} {l:List Str}:k ∈ insS x l ↔ k=x\/k ∈ l:=by
 unfold insS
 split
 ·rename_i h
  exact ⟨.inr,fun z=>z.elim (fun e=>e ▸ h) id⟩
 ·exact List.mem_cons
theorem zcu (x:Str) (l:List Str):(insS x l).length<=l.length+1:=by
 unfold insS
 split
 ·omega
 ·simp
theorem zcm {b s i j:Nat} (hs:s=1\/s=3\/s=5\/s=7\/s=9\/s=11\/s=15\/s=17) (hi:i < 8) (hj:j < 8) (e:(b+s*i) % 26=(b+s*j) % 26):i=j:=by
 rcases hs with rfl | rfl | rfl | rfl | rfl | rfl | rfl | rfl <;> omega
section
variable {J:It} {n:Nat} {G:Hp->Prop} {Y:Nat->Hp->V->Hp->Prop} {P:Program} {w':World}
theorem SetSO.noTup {a:Addr} {l:List Str}:(∀ xs,SetSO P w' a l ≠ .tup xs)/\∀ u v,SetSO P w' a l ≠ .frz u v:=⟨(fun _ z=>nomatch z),(fun _ _ z=>nomatch z)⟩
theorem zc6 (w:Walk J n G Y) {g:TG} {tt:TT} {te:TE} {vs:List Nat} {σ:L2.St} {H:Hp} {D:Addr} {Qd:Hp->Prop} (hD:H D=none) (hn:n+1 < scanBound) (R:Nat->List Str->Hp->Prop) (h0:R 0 [] H) (hG:∀ H2,SB [] H H2->G H2)
  (st:∀ i us H2 H3,SB [D] H2 H3->R i us H2->R i us H3)
  (turn:∀ (Pv:Hp->Prop) i x H2 H' us,i < n->SB [] H H2->Y i H2 x H'->R i us H2->us.length<=i->(∀ z H5,SB [] H2 H5->R (i+1) (insS z us) H5->∃ (z':Str) (l:List Str),V.str z=.str z'/\H5 D=some (SetSO P w' D l)/\l.length+1 < scanBound/\Pv (upd H5 D (SetSO P w' D (insS z' l)))) ->
   (∀ H4,SB [] H2 H4->R (i+1) us H4->Pv H4)->g x (wipe σ vs) H' fun σ2 H3=>wipe σ2 vs=wipe σ vs/\tt σ2 H3 fun b H4 =>
    if b=true then te σ2 H4 fun y H5=>∃ (z:Str) (l:List Str),y=.str z/\H5 D=some (SetSO P w' D l)/\l.length+1 < scanBound/\Pv (upd H5 D (SetSO P w' D (insS z l))) else Pv H4)
  (done:∀ us H2,SB [] H H2->H2 D=some (SetSO P w' D us)->R n us H2->us.length<=n->Qd H2) :
  ∃ W:Nat->Nat->Hp->Prop,(∃ m,W 0 m (upd H D (SetSO P w' D [])))/\∀ i m Hi,W i m Hi ->
   (J.stop i Hi/\Qd Hi)\/(J.go i Hi/\∃ Nx:Hp->Prop,(∀ H',Nx H'->∃ m',m' < m/\W (i+1) m' H')/\∀ x H',J.yld i Hi x H'->g x (wipe σ vs) H' fun σ2 H2=>wipe σ2 vs=wipe σ vs/\tt σ2 H2 fun b H3 =>
    if b=true then te σ2 H3 fun y H4=>∃ (z:Str) (l:List Str),y=.str z/\H4 D=some (SetSO P w' D l)/\l.length+1 < scanBound/\Nx (upd H4 D (SetSO P w' D (insS z l))) else Nx H3):=by
 refine lcG (body:=fun Nx x H'=>g x (wipe σ vs) H' fun σ2 H2=>wipe σ2 vs=wipe σ vs/\tt σ2 H2 fun b H3 =>
    if b=true then te σ2 H3 fun y H4=>∃ (z:Str) (l:List Str),y=.str z/\H4 D=some (SetSO P w' D l)/\l.length+1 < scanBound/\Nx (upd H4 D (SetSO P w' D (insS z l))) else Nx H3) w (fun i H2=>SB [D] H H2/\∃ us,H2 D=some (SetSO P w' D us)/\R i us H2/\us.length<=i) ⟨SB.new hD _,[],upd_same,st _ _ _ _ (SB.new hD _) h0,Nat.le_refl _⟩ (fun i H2 _ h=>hG H2 (h.1.drop hD)) (fun i x H2 H' hi h y=>?_) (fun H2 h=>?_)
 ·obtain ⟨s2,us,hD2,hR,hl⟩:=h
  refine turn _ i x H2 H' us hi (s2.drop hD) y hR hl (fun z H5 s5 r5=>?_) (fun H4 s4 r4=>⟨s2.trans s4.nil,us,s4.keep _ _ hD2 nmn,r4,by omega⟩)
  have hD5:=s5.keep _ _ hD2 nmn
  have t6:SB [D] H5 (upd H5 D (SetSO P w' D (insS z us))):=SB.setG hD5 (by simp) SetSO.noTup.1 SetSO.noTup.2 _
  refine ⟨z,us,rfl,hD5,by omega,(s2.trans s5.nil).trans t6,_,upd_same,st _ _ _ _ t6 r5,?_⟩
  have:=zcu z us
  omega
 ·obtain ⟨s2,us,hD2,hR,hl⟩:=h
  exact done us H2 (s2.drop hD) hD2 hR hl
end
def z47 (K:PySem.W.Frag) (C N:Addr):Sp:=fun vs H Q E=>∃ (v:V) (b:Bk) (n:Str),vs=[v,.str n]/\BkA K C H v b/\b.length<=1000/\(∀ k ∈ b,k.rs.length<=1000) /\
 z3b N b n H E fun k=>∀ (l:Addr) (us:List V) (H':Hp),SB [] H H'->H l=none->H' l=some (.lst us)->Bears K H' Ru.enc us ((.nil,.nil)::k.rs)->Q (.ref l) H'
def Gr.bk:Gr->Nat->List (Pl × Str)
 | .nil,_=>[]
 | .cons k g _ r,i=>(if g=.nil then [([i],k)] else (g.bk 0).map fun x=>(i::x.1,x.2))++r.bk (i+1)
def bkE (x:Pl × Str):PyData:=.tuple [z0d x.1,.str x.2]
theorem z0k (x:Pl × Str):z03 (bkE x)=true:=by simp [bkE,z03,z07,z08]
section
variable {M:Model} {A:Around} {E:Value->Shared->Prop} {s:Shared} {env:Env}
theorem zir {func:Expr} {args:List Expr} {kws:List Keyword} {pos:Pos} {Q:Value->Shared->Prop}
  (h:wpAny M A (eval func env) (fun f s₁=>wpAny M A (callWith pos f [] (backTo pos (starEach args env)) (backToKw pos (keywordEach kws env))) Q E s₁) E s)
  (he:eval (.Call func args kws pos) env=(do callWith pos (<- eval func env) [] (backTo pos (starEach args env)) (backToKw pos (keywordEach kws env))):=by rfl) :
  wpAny M A (eval (.Call func args kws pos) env) Q E s:=by
 rw [he]; exact wpAny_bind h
theorem z8b {pos:Pos} {T:String} {e:Expr} {rest:List Expr} {kws:List Keyword} {Q:Value->Shared->Prop}
  (h:wpAny M A (spliced (backTo pos (starEach (e::rest) env))) (fun vs s₁=>wpAny M A (evalAll ((backToKw pos (keywordEach kws env)).map (·.2)))
   (fun kvs s₂=>wpAny M A (call (.type T) vs (((backToKw pos (keywordEach kws env)).filterMap (·.1)).zip kvs)) Q E s₂) E s₁) E s)
  (he:starEach (e::rest) env=(false,eval e env)::starEach rest env)
  (hplain:(backTo pos (starEach rest env)).any (·.1)=false)
  (hall:(backToKw pos (keywordEach kws env)).all (·.1.isSome)=true)
  (hkw:(backToKw pos (keywordEach kws env)).any (·.1.isNone)=false) :
  wpAny M A (callWith pos (.type T) [] (backTo pos (starEach (e::rest) env)) (backToKw pos (keywordEach kws env))) Q E s:=by
 rw [he] at h ⊢
 have h2:(backTo pos ((false,eval e env)::starEach rest env)).any (·.1)=false:=by
  show (false || (backTo pos (starEach rest env)).any (·.1))=false
  rw [hplain]; rfl
 have h3:backTo pos ((false,eval e env)::starEach rest env)=(false,eval e env)::backTo pos (starEach rest env):=rfl
 rw [h3] at h h2 ⊢
 unfold callWith
 refine wpAny_bind (wpAny_holding (wpAny_mono (evalArgs_kwB (Q:=fun a s₁=>wpAny M A (call (.type T) ([]++a.pos) a.kw) Q E s₁) hall h) (fun a s₁ h₁=>wpAny_bind (wpAny_standAt ?_)) fun _ _ x=>x))
 simp only [h2,hkw,Bool.or_false]
 refine wpAny_bind (wpAny_pure ?_)
 exact wpAny_bind (wpAny_mono h₁ (fun r s₂ hr=>wpAny_bind (wpAny_holding (wpAny_point (wpAny_pure hr)))) fun _ _ x=>x)
end
def IteS (K:PySem.W.Frag) (a:Addr):It :=
 ⟨fun i H=>∃ (xs:List V) (x:V),SqL K H a xs/\xs[i]?=some x,
  fun i H v H2=>∃ T x,v=.ref T/\H T=none/\H2=upd H T (.tup [.int ((i+1:Nat):Int),x])/\∀ xs,SqL K H a xs->xs[i]?=some x,
  fun i H=>∃ xs:List V,SqL K H a xs/\xs.length=i⟩
theorem zau {P:Program} {w:World} {K:PySem.W.Frag} {elts:List Expr} {kk:Nat} {tpos:Pos} (a e it:Addr) (hei:e ≠ it) (hai:a ≠ it) (hea:e ≠ a) :
  Turn P w K (.Tuple elts kk tpos) (IteS K a) [e,it] e (fun i h=>(∃ old,IsEnum h e it ((i+1:Nat):Int) old)/\h.IsListIter it a i) where
 mem:=by simp
 obj:=fun i h st b hb=>by
  obtain ⟨⟨old,he⟩,o,ho,hc,hd⟩:=st
  rcases (show b=e\/b=it by simpa using hb) with z | z
  ·rw [z]; exact ⟨_,he,fun v q=>nomatch q⟩
  ·rw [z]; exact ⟨o,ho,fun v q=>by rw [hd] at q; cases q⟩
 keep:=fun i h h2 st k=>let ⟨⟨old,he⟩,hi⟩:=st; ⟨⟨old,k e (by simp) _ he⟩,hi.at fun o q=>k it (by simp) o q⟩
 item:=by
  intro X hP hw hK hc i pins s σ H E I hf st hg
  subst hP hw hK
  obtain ⟨⟨old,he⟩,hit⟩:=st
  obtain ⟨xs,x,hq,hx⟩:=hg
  obtain ⟨its,rv,p,hz⟩:=I.list hq
  obtain ⟨u,hu,ru⟩:=rv.get hx
  have hel:e < s.heap.objs.size:=Heap.lt_size he
  have hil:it < s.heap.objs.size:=by obtain ⟨_,z,_⟩:=hit; exact Heap.lt_size z
  have Dr:=Draws.list (prog:=X.prog) (w:=X.w) (A:=X.A.in1) (I.ok.hd hc) it a hai its.toArray
  have hlt:i < its.toArray.size:=by
   have:=(List.getElem?_eq_some_iff.mp hu).1
   simpa using this
  refine wpAny_pyNext_enum_itemC Dr he ⟨hit,p.isList⟩ hlt hei (by simp [hei,hea]) fun y h2 tk hy ho hst hT hsz hk=>?_
  have hyu:y=u:=by
   have h3:its[i]?=some y:=by simpa using hy
   rw [hu] at h3; exact (Option.some.inj h3).symm
  subst hyu
  refine ⟨_,rfl,wpAny_letOwnedTupleGo_enum (s:={ s with heap:=h2,toks:=tk+1 }) ho fun h3 he3 sb=>?_⟩
  have hT2:h3.get? s.heap.objs.size=some { cls:=.type "tuple",data:=.seq #[.int ((i+1:Nat):Int) tk,y] }:=(sb.2 _ (Nat.ne_of_gt hel)).trans hT
  have nw:ObjOk X.prog X.w (upd H s.heap.objs.size (.tup [.int ((i+1:Nat):Int),x])) h3 s.heap.objs.size (.tup [.int ((i+1:Nat):Int),x]):=⟨by show 2<=sizeLine; decide,[.int ((i+1:Nat):Int) tk,y],.cons ⟨_,rfl⟩ (.cons ru .nil),⟨_,hT2,rfl,_,rfl⟩⟩
  have I1:Inv X pins σ (upd H s.heap.objs.size (.tup [.int ((i+1:Nat):Int),x])) { s with heap:=h3,toks:=tk+1 }:=I.turnedNew (ch:=[e,it]) (fun b ob hb z=>(sb.2 b (fun y=>hb (by simp [y]))).trans (hk b ob (fun y=>hb (by simp [y])) (fun y=>hb (by simp [y])) z)) hf (Nat.le_refl _) nw
  refine ⟨.ref s.heap.objs.size,_,I1,rfl,⟨_,x,rfl,I.hok.fresh (Nat.le_refl _),rfl,fun ys hy=>by rw [I.list_inj hy hq]; exact hx⟩,⟨⟨y,?_⟩,hst.1.at fun o q=>(sb.2 it (Ne.symm hei)).trans q⟩,fun b hb=>?_⟩
  ·rw [show ((i+1+1:Nat):Int)=((i+1:Nat):Int)+1 by omega]; exact he3
  ·have hb2:b < s.heap.objs.size:=by
    rcases (show b=e\/b=it by simpa using hb) with z | z
    ·rw [z]; exact hel
    ·rw [z]; exact hil
   rw [upd_ne (Nat.ne_of_lt hb2)]; exact (hf b hb).1
 done:=by
  intro X hP hw hK hc i pins s σ H E I hf st hg
  subst hP hw hK
  obtain ⟨⟨old,he⟩,hit⟩:=st
  obtain ⟨xs,hq,hx⟩:=hg
  obtain ⟨its,rv,p,hz⟩:=I.list hq
  obtain ⟨f0,f1,f2,f3,f4,f5⟩:=hf it (by simp)
  have hl:=rv.length
  have Dr:=Draws.list (prog:=X.prog) (w:=X.w) (A:=X.A.in1) (I.ok.hd hc) it a hai its.toArray
  have hn:its.toArray.size=i:=by simp; omega
  refine wpAny_pyNext_enum_endD Dr he ⟨by rw [hn]; exact hit,p.isList⟩ fun h2 eb=>⟨rfl,I.turned (t':=s.toks) (fun b o hb z=>eb b o hb z) f0 f1 f3 f4 f5⟩
 self:=fun A i s Q E st h=>let ⟨⟨_,he⟩,_⟩:=st; wpAny_pyIter_enum he h
def zj9 (K:PySem.W.Frag) (te:TE):TI:=fun σ H R=>te σ H fun v H1=>∃ a xs,v=.ref a/\SqL K H1 a xs/\R (IteS K a) H1
theorem zcz {X:Cx} {ex:Expr} {te:TE} {p pos tpos kp cp:Pos} {elts:List Expr} {kk ck:Nat} (hg:Gl X "enumerate") (hm:X.mg "enumerate"=none) (he:PE X ex te) (hs:starEach [ex] X.env=(false,eval ex X.env)::starEach [] X.env:=by rfl) :
  PI X (.Tuple elts kk tpos) (.Call (.Name "enumerate" p) [ex] [⟨some "start",.Constant (.int 1) ck cp,kp⟩] pos) (zj9 X.K te):=by
 refine ⟨fun pins s σ H R I h=>?_⟩
 refine zir (ld_blt I hg hm boot_enumerate (z8b (args_cons (thn (he.run pins s σ H _ I h) fun u s1 ⟨v,H1,I1,r1,q1⟩=>args_nil ?_) hs) hs rfl rfl rfl))
 obtain ⟨a,xs,ev,hq,q⟩:=q1
 subst ev
 cases r1
 refine kws_cons (thn ((pe_int (X:=X) (i:=1) (j:=ck) (pos:=cp)).run pins s1 σ H1 (fun v H2=>v=.int 1/\H2=H1) I1 ⟨rfl,rfl⟩) fun u s2 ⟨v,H2,I2,r2,q2⟩=>kws_nil ?_)
 obtain ⟨rfl,rfl⟩:=q2
 obtain ⟨t,rfl⟩:∃ t,u=.int 1 t:=r2
 obtain ⟨its,rv,pt,hz⟩:=I2.list hq
 have ht:s2.heap.IsList a its.toArray:=pt.isList
 have hal:a < s2.heap.objs.size:=by obtain ⟨_,z,_⟩:=ht; exact Heap.lt_size z
 show wpAny _ _ (call (.type "enumerate") [.ref a] [(Str.ofString "start",.int 1 t)]) _ _ _
 refine enum_begins_start (begins_list a its.toArray) ht (by decide) (by decide) fun h2 he2 hit hsz hk=>wpAny_pyIter_enum he2 ?_
 have I3:Inv X pins σ H2 { s2 with heap:=h2 }:=I2.kept (t':=s2.toks) hk
 refine ⟨s2.heap.objs.size+1,[s2.heap.objs.size+1,s2.heap.objs.size],_,_,H2,rfl,I3,zau a (s2.heap.objs.size+1) s2.heap.objs.size (Nat.succ_ne_self _) (Nat.ne_of_lt hal) (Nat.ne_of_gt (Nat.lt_succ_of_lt hal)),⟨⟨.none,he2⟩,⟨_,hit,rfl,rfl⟩⟩,fun b hb=>?_,q⟩
 have hle:s2.heap.objs.size<=b:=by
  rcases (show b=s2.heap.objs.size+1\/b=s2.heap.objs.size by simpa using hb) with z | z
  ·rw [z]; exact Nat.le_add_right _ _
  ·rw [z]; exact Nat.le_refl _
 exact I2.fpOk hle (I2.hok.fresh hle)
theorem zb5 {K:PySem.W.Frag} {a:Addr} {xs:List V}:Walk (IteS K a) xs.length (fun H=>SqL K H a xs) (YPair (fun i=>some (.int ((i+1:Nat):Int))) (fun i=>xs[i]?)):=by
 refine ⟨fun i _ hi q=>⟨xs,xs[i],q,by simp [hi]⟩,fun _ q=>⟨xs,q,rfl⟩,fun i H v H2 _ q y=>?_⟩
 obtain ⟨T,x,h1,h2,h3,h4⟩:=y
 exact ⟨T,.int ((i+1:Nat):Int),x,h1,h2,h3,rfl,h4 xs q⟩
namespace Gr
def ak:Gr->Nat->List (Pl × Str)
 | .nil,_=>[]
 | .cons k g _ r,i=>(([i],k)::(g.ak 0).map fun x=>(i::x.1,x.2))++r.ak (i+1)
def akP (p:Tr × Int) (i:Nat):List (Pl × Str):=([i],p.1.1)::(p.1.2.ak 0).map fun x=>(i::x.1,x.2)
def aks:List (Tr × Int)->Nat->List (Pl × Str)
 | [],_=>[]
 | p::r,i=>akP p i++aks r (i+1)
theorem ak_ps:∀ (g:Gr) (i:Nat),g.ak i=aks g.ps i
 | .nil,_=>rfl
 | .cons k g m r,i=>by show _++r.ak (i+1)=_++aks r.ps (i+1); rw [ak_ps r]; rfl
theorem aks_append:∀ (as bs:List (Tr × Int)) (i:Nat),aks (as++bs) i=aks as i++aks bs (i+as.length)
 | [],bs,i=>by simp [aks]
 | p::r,bs,i=>by
  show akP p i++aks (r++bs) (i+1)=_
  rw [aks_append r bs (i+1)]
  show _=(akP p i++aks r (i+1))++aks bs (i+(r.length+1))
  rw [List.append_assoc,show i+1+r.length=i+(r.length+1) by omega]
theorem aks_take {bs:List (Tr × Int)} {i:Nat} {p:Tr × Int} (h:bs[i]?=some p):aks (bs.take (i+1)) 0=aks (bs.take i) 0++akP p i:=by
 have hl:i < bs.length:=(List.getElem?_eq_some_iff.mp h).1
 rw [List.take_add_one,h,aks_append,List.length_take,Nat.min_eq_left (by omega),Nat.zero_add]
 show _++(akP p i++[])=_
 rw [List.append_nil]
theorem ak_kinds:∀ (g:Gr) (i:Nat),(g.ak i).map (·.2)=g.within.map (·.1.1)
 | .nil,_=>rfl
 | .cons k g m r,i=>by
  have h1:=ak_kinds g 0
  have h2:=ak_kinds r (i+1)
  show ((([i],k)::(g.ak 0).map fun x=>(i::x.1,x.2))++r.ak (i+1)).map (·.2)=(((k,g),m)::(g.within++r.within)).map (·.1.1)
  rw [List.map_append,List.map_cons,List.map_map,h2,List.map_cons,List.map_append,<- h1]
  rfl
theorem ak_len (g:Gr) (i:Nat):(g.ak i).length=g.parts:=by
 have:=congrArg List.length (ak_kinds g i)
 rw [List.length_map,List.length_map,within_length] at this
 exact this
theorem ak_long:∀ (g:Gr) (i:Nat),∀ x ∈ g.ak i,x.1.length<=g.deep
 | .nil,_,x,h=>by cases h
 | .cons k g m r,i,x,h=>by
  have h1:=ak_long g 0
  have h2:=ak_long r (i+1)
  show x.1.length<=max (1+g.deep) r.deep
  rcases List.mem_append.mp h with h | h
  ·rcases List.mem_cons.mp h with h | h
   ·rw [h]; show 1<=_; omega
   ·obtain ⟨q,hq,rfl⟩:=List.mem_map.mp h
    have:=h1 q hq
    show q.1.length+1<=_; omega
  ·have:=h2 x h; omega
theorem lk_root {a b:Str} {g:Gr} {os:List (Option Int)} (h:os ≠ []):lk (a,g) os=lk (b,g) os:=by
 cases os with
 | nil=>exact absurd rfl h
 | cons o r=>rfl
theorem ak_at {G:Gr}:∀ (g:Gr) (i:Nat),G.ps.drop i=g.ps->∀ x ∈ g.ak i,plO x.1 ≠ []/\∃ t:Tr,lk ("",G) (plO x.1)=some t/\t.1=x.2
 | .nil,_,_,x,h=>by cases h
 | .cons k g m r,i,hd,x,h=>by
  have hd':G.ps.drop i=((k,g),m)::r.ps:=hd
  have hi:G.ps[i]?=some ((k,g),m):=by
   have:=congrArg (·[0]?) hd'
   simpa using this
  have hs:stp G (some ((i:Nat):Int))=some (k,g):=by
   show (if (0:Int)<=((i:Nat):Int) then (G.ps[((i:Nat):Int).toNat]?).map (·.1) else none)=_
   rw [if_pos (by omega),Int.toNat_natCast,hi]; rfl
  rcases List.mem_append.mp h with h | h
  ·rcases List.mem_cons.mp h with h | h
   ·rw [h]
    refine ⟨by simp [plO],(k,g),?_,rfl⟩
    show (stp G (some ((i:Nat):Int))).bind _=_
    rw [hs]; rfl
   ·obtain ⟨q,hq,rfl⟩:=List.mem_map.mp h
    obtain ⟨n1,t,e1,e2⟩:=ak_at (G:=g) g 0 rfl q hq
    refine ⟨by simp [plO],t,?_,e2⟩
    show (stp G (some ((i:Nat):Int))).bind (fun u=>lk u (plO q.1))=_
    rw [hs]
    show lk (k,g) (plO q.1)=some t
    rw [lk_root (b:="") n1,e1]
  ·refine ak_at r (i+1) ?_ x h
   rw [<- List.drop_drop,hd']; rfl
theorem ak_place (g:Gr):∀ x ∈ g.ak 0,plO x.1 ≠ []/\∃ t:Tr,lk ("",g) (plO x.1)=some t/\t.1=x.2:=ak_at g 0 rfl
theorem deep_parts:∀ g:Gr,g.deep<=g.parts
 | .nil=>Nat.le_refl _
 | .cons k g m r=>by
  have h1:=deep_parts g
  have h2:=deep_parts r
  show max (1+g.deep) r.deep<=1+g.parts+r.parts
  omega
theorem bk_bp:∀ (g:Gr) (i:Nat),(g.bk i).map (·.1)=g.bp i
 | .nil,_=>rfl
 | .cons k g m r,i=>by
  have h1:=bk_bp g 0
  have h2:=bk_bp r (i+1)
  show ((if g=.nil then [([i],k)] else (g.bk 0).map fun x=>(i::x.1,x.2))++r.bk (i+1)).map (·.1)=(if g=.nil then [[i]] else (g.bp 0).map (i::·))++r.bp (i+1)
  rw [List.map_append,h2]
  by_cases hg:g=.nil
  ·rw [if_pos hg,if_pos hg]; rfl
  ·rw [if_neg hg,if_neg hg,List.map_map,<- h1,List.map_map]; rfl
end Gr
def z3d (K:PySem.W.Frag) (n:Nat):Sp:=fun vs H Q _=>∃ (v:V) (g:Gr),vs=[v]/\GA K H v g/\g.deep < n/\g.deep<=100/\g.parts<=1000/\∀ (D:Addr) (us:List V) (H':Hp),SB [] H H'->H D=none->H' D=some (.lst us)->Bears K H' z0d us ((g.ak 0).map (·.1))->Q (.ref D) H'
structure Sx where
 n:Str
 i:Nat
 wd:Str
 p:Pl
 k:Str
def Sx.st (s:Sx):PyData:=.tuple [.str s.n,.int (s.i:Int),.str s.wd,z0d s.p]
def Sx.enc (s:Sx):PyData:=.tuple [s.st,.str s.k]
theorem Sx.noList_st (s:Sx):z03 s.st=true:=by simp [Sx.st,z03,z07,z08]
theorem Sx.noList_enc (s:Sx):z03 s.enc=true:=by simp [Sx.enc,z03,z07,Sx.noList_st]
def stG (n:Str) (i:Nat) (wd:Str) (g:Gr):List Sx:=(g.ak 0).map fun x=>⟨n,i,wd,x.1,x.2⟩
def stR (n:Str) (x:Ru × Nat):List Sx:=stG n x.2 "once" x.1.1++stG n x.2 "each" x.1.2
def Kd.steps (k:Kd):List Sx:=(k.rs.zipIdx 1).flatMap (stR k.n)
def ledR (rs:List Ru):List Str:=rs.flatMap fun r=>r.within.map (·.1.1)
theorem z8q (n:Str) (i:Nat) (wd:Str) (g:Gr):(stG n i wd g).map (·.k)=g.within.map (·.1.1):=by
 unfold stG
 rw [List.map_map,<- Gr.ak_kinds g 0]; rfl
theorem z2d (n:Str) (i:Nat) (wd:Str) (g:Gr):(stG n i wd g).length=g.parts:=by
 unfold stG
 rw [List.length_map,Gr.ak_len]
theorem zbn (n:Str) (x:Ru × Nat):(stR n x).map (·.k)=x.1.within.map (·.1.1):=by
 unfold stR Ru.within
 rw [List.map_append,List.map_append,z8q,z8q]
theorem zh3 (n:Str) (x:Ru × Nat):(stR n x).length=x.1.1.parts+x.1.2.parts:=by
 unfold stR
 rw [List.length_append,z2d,z2d]
theorem z7p (n:Str):∀ (rs:List Ru) (i:Nat),((rs.zipIdx i).flatMap (stR n)).map (·.k)=ledR rs
 | [],_=>rfl
 | r::rs,i=>by
  rw [List.zipIdx_cons,List.flatMap_cons,List.map_append,z7p n rs (i+1),zbn]
  rfl
theorem Kd.steps_kinds (k:Kd):k.steps.map (·.k)=ledR k.rs:=z7p _ _ _
theorem zbs (n:Str):∀ (xs:List (Ru × Nat)),(∀ x ∈ xs,x.1.1.parts+x.1.2.parts<=4)->(xs.flatMap (stR n)).length<=4*xs.length
 | [],_=>Nat.le_refl _
 | x::xs,h=>by
  have h1:=zbs n xs fun y hy=>h y (mcm _ hy)
  have h2:=h x mcs
  rw [List.flatMap_cons,List.length_append,zh3,List.length_cons]
  omega
theorem Kd.steps_len {k:Kd} (h4:k.rs.length<=4) (h:∀ r ∈ k.rs,RuOk r):k.steps.length<=16:=by
 have:=zbs k.n (k.rs.zipIdx 1) fun x hx=>(h x.1 (by
  have:=List.mem_zipIdx hx
  rw [this.2.2]; exact List.getElem_mem _)).2.2
 rw [List.length_zipIdx] at this
 show ((k.rs.zipIdx 1).flatMap (stR k.n)).length<=16
 omega
def z54 (K:PySem.W.Frag):Sp:=fun vs H Q _=>∃ (n wd:Str) (i:Nat) (v:V) (g:Gr),vs=[.str n,.int (i:Int),.str wd,v]/\GA K H v g/\g.deep < 20/\g.parts<=60/\∀ (l:Addr) (us:List V) (H':Hp),SB [] H H'->H l=none->H' l=some (.lst us)->Bears K H' Sx.enc us (stG n i wd g)->Q (.ref l) H'
def z57 (K:PySem.W.Frag) (C N:Addr):Sp:=fun vs H Q E=>∃ (v:V) (b:Bk) (n:Str),vs=[v,.str n]/\BkA K C H v b/\b.Ok /\
 z3b N b n H E fun k=>∀ (l:Addr) (us:List V) (H':Hp),SB [] H H'->H l=none->H' l=some (.lst us)->Bears K H' Sx.enc us k.steps->Q (.ref l) H'
structure SrtOf (ss ks:List Str):Prop where
 srt:sortedS ss=true
 nd:ss.Nodup
 mem:∀ x,x ∈ ss ↔ x ∈ ks
theorem z82 {x:Str} {l:List Str} (h:l.Nodup):(insS x l).Nodup:=by
 unfold insS
 split
 ·exact h
 ·rename_i hx
  exact List.nodup_cons.mpr ⟨hx,h⟩
theorem SrtOf.perm {ss l ks:List Str} (pm:ss.Perm l) (s:sortedS ss=true) (nd:l.Nodup) (h:∀ x,x ∈ l ↔ x ∈ ks):SrtOf ss ks :=
 ⟨s,pm.nodup_iff.mpr nd,fun x=>pm.mem_iff.trans (h x)⟩
def z6b (K:PySem.W.Frag) (C N:Addr):Sp:=fun vs H Q E=>∃ (v:V) (b:Bk) (n:Str),vs=[v,.str n]/\BkA K C H v b/\b.Ok /\
 z3b N b n H E fun k=>∀ (l:Addr) (ss:List Str) (H':Hp),SB [] H H'->H l=none->H' l=some (.lst (ss.map V.str))->SrtOf ss (ledR k.rs)->Q (.ref l) H'
theorem z9c {ds:List PyData} (h:plSs ds=true) (hd:PyData.depthAll ds<=60):SeqAt.shaped (.list ds)=true:=by
 unfold SeqAt.shaped
 rw [PyData.canLay0,z41 _ h,Bool.true_and]
 have:(PyData.list ds).depth=PyData.depthAll ds+1:=by simp [PyData.depth]
 exact decide_eq_true (by omega)
theorem Bk.Ok.led {b:Bk} (ok:b.Ok) {k:Kd} (hk:k ∈ b):∀ x ∈ ledR k.rs,x ∈ b.names:=fun x hx=>by
 obtain ⟨r,hr,hx⟩:=List.mem_flatMap.mp hx
 obtain ⟨p,hp,rfl⟩:=List.mem_map.mp hx
 exact ((ok.kd k hk).2.2 r hr).2 p hp
theorem Bk.Ok.names {b:Bk} (ok:b.Ok):∀ x ∈ b.names,z02 x:=fun x hx=>by
 obtain ⟨k,hk,rfl⟩:=List.mem_map.mp hx
 exact (ok.kd k hk).1
def z7q (K:PySem.W.Frag) (x:Addr):Bool:=match K.lookup x with
 | some o=>(match o.cls,o.data with
  | .type t,.seq its _=>decide (t="tuple")&&decide (its.toList.length=0)
  | _,_=>false)
 | none=>false
def no2B (K:PySem.W.Frag) (a:Addr):Bool:=match K.lookup a with
 | some o=>(match o.cls,o.data with
  | .type t,.seq its _=>decide (t="tuple")&&(match its.toList with
   | [.ref x,.ref y]=>z7q K x&&z7q K y
   | _=>false)
  | _,_=>false)
 | none=>false
theorem z8w {K:PySem.W.Frag} {x:Addr} (h:z7q K x=true) (H:Hp):SqT K H x []:=by
 unfold z7q at h
 split at h
 ·rename_i o ho
  split at h
  ·rename_i t its n hc hd
   rw [Bool.and_eq_true,decide_eq_true_eq,decide_eq_true_eq] at h
   have hz:its.size=0:=by simpa using h.2
   have he:its.toList=[]:=List.length_eq_zero_iff.mp h.2
   refine .inr ⟨o,its,n,ho,by rw [hc,h.1],hd,by rw [hz]; exact Nat.zero_le _,by rw [he]; exact .nil⟩
  ·cases h
 ·cases h
theorem zh5 {K:PySem.W.Frag} {a:Addr} (h:no2B K a=true) (H:Hp):Dp K H (.ref a) (Ru.enc (.nil,.nil)):=by
 unfold no2B at h
 split at h
 ·rename_i o ho
  split at h
  ·rename_i t its n hc hd
   rw [Bool.and_eq_true,decide_eq_true_eq] at h
   obtain ⟨h1,h2⟩:=h
   split at h2
   ·rename_i x y he
    rw [Bool.and_eq_true] at h2
    have hz:its.size=2:=by have:=congrArg List.length he; simpa using this
    have hs:SqT K H a [.ref x,.ref y]:=.inr ⟨o,its,n,ho,by rw [hc,h1],hd,by rw [hz]; decide,by rw [he]; exact .cons rfl (.cons rfl .nil)⟩
    exact .tup hs (.cons (.tup (z8w h2.1 H) .nil) (.cons (.tup (z8w h2.2 H) .nil) .nil))
   ·cases h2
  ·cases h
 ·cases h
namespace Gr
def bkP (p:Tr × Int) (i:Nat):List (Pl × Str):=if p.1.2=.nil then [([i],p.1.1)] else (p.1.2.bk 0).map fun x=>(i::x.1,x.2)
def bks:List (Tr × Int)->Nat->List (Pl × Str)
 | [],_=>[]
 | p::r,i=>bkP p i++bks r (i+1)
theorem bk_ps:∀ (g:Gr) (i:Nat),g.bk i=bks g.ps i
 | .nil,_=>rfl
 | .cons k g m r,i=>by show _++r.bk (i+1)=_++bks r.ps (i+1); rw [bk_ps r]; rfl
theorem bks_append:∀ (as bs:List (Tr × Int)) (i:Nat),bks (as++bs) i=bks as i++bks bs (i+as.length)
 | [],bs,i=>by simp [bks]
 | p::r,bs,i=>by
  show bkP p i++bks (r++bs) (i+1)=_
  rw [bks_append r bs (i+1)]
  show _=(bkP p i++bks r (i+1))++bks bs (i+(r.length+1))
  rw [List.append_assoc,show i+1+r.length=i+(r.length+1) by omega]
theorem bks_take {bs:List (Tr × Int)} {i:Nat} {p:Tr × Int} (h:bs[i]?=some p):bks (bs.take (i+1)) 0=bks (bs.take i) 0++bkP p i:=by
 have hl:i < bs.length:=(List.getElem?_eq_some_iff.mp h).1
 rw [List.take_add_one,h,bks_append,List.length_take,Nat.min_eq_left (by omega),Nat.zero_add]
 show _++(bkP p i++[])=_
 rw [List.append_nil]
theorem bk_len (g:Gr) (i:Nat):(g.bk i).length<=g.parts:=by
 have h:=congrArg List.length (bk_bp g i)
 rw [List.length_map] at h
 rw [h]; exact bp_len g i
theorem enc_eq_nil (g:Gr):PyData.eqv g.enc (.tuple [])=decide (g=.nil):=by
 cases g with
 | nil=>simp [enc,encs,PyData.eqv,PyData.eqvAll]
 | cons k g m r=>simp [enc,encs,PyData.eqv,PyData.eqvAll]
end Gr
theorem zgm {K:PySem.W.Frag} {σ:L2.St} {H:Hp} {kh:Addr} {xs:List V} {b:Bk} {Q:VK} {i a1 a2 a3:Nat} {vs:List Nat} (hσ:σ[i]?=some (some (.ref kh)))
  (w0:∀ x y z:V,wipe ((((wipe σ vs).set a1 (some x)).set a2 (some y)).set a3 (some z)) vs=wipe σ vs)
  (w1:∀ x y z:V,((((wipe σ vs).set a1 (some x)).set a2 (some y)).set a3 (some z))[a1]?=some (some x)) (w2:∀ x y z:V,((((wipe σ vs).set a1 (some x)).set a2 (some y)).set a3 (some z))[a2]?=some (some y)) (w3:∀ x y z:V,((((wipe σ vs).set a1 (some x)).set a2 (some y)).set a3 (some z))[a3]?=some (some z))
  (hkh:H kh=some (.lst xs)) (hb:KdAll K H [] xs b) (b8:b.length<=8)
  (k:∀ (D:Addr) (us:List V) (ls:List Addr) (H':Hp),SB [] H H'->H D=none->H' D=some (.lst us)->KdAll K H' [D] us b->D ∉ ls->(∀ p ∈ ls,H p=none/\∃ zs,H' p=some (.lst zs))->(∀ u ∈ us,∃ t x y l,u=.ref t/\SqT K H' t [x,y,.ref l]/\l ∈ ls)->Q (.ref D) H') :
  tLc (iList K (tVar i)) (gTup K 3 (gCons (gName a1) (gCons (gName a2) (gCons (gName a3) gNil)))) tYes (tTup (tCons (tVar a1) (tCons (tVar a2) (tCons (tCB (za4 K) (tCons (tVar a3) tNil)) tNil)))) vs σ H Q:=by
 have szl:=sizeLine_eq
 have xl:=hb.length
 refine ⟨_,hσ,kh,rfl,⟨_,SqL.of hkh⟩,fun D hD=>?_⟩
 refine z66 (walk_list (xs:=xs)) [] hD (by simp) (by omega) (fun i us H2=>∃ ls:List Addr,KdAll K H2 [D] us (b.take i)/\D ∉ ls/\(∀ p ∈ ls,H p=none/\∃ zs,H2 p=some (.lst zs))/\∀ u ∈ us,∃ t x y l,u=.ref t/\SqT K H2 t [x,y,.ref l]/\l ∈ ls)
  ⟨[],.nil,by simp,by simp,by simp⟩ (fun H3 s3=>s3.sqL nmn (SqL.of hkh)) (fun i us H2 H3 s3 ⟨ls,h1,h2,h3,h4⟩=>⟨ls,h1.sb s3 NoLst.self,h2,fun p hp=>⟨(h3 p hp).1,(h3 p hp).2.imp fun zs hz=>s3.keep _ _ hz fun z=>h2 (by rw [<- List.mem_singleton.mp z]; exact hp)⟩,fun u hu=>by
   obtain ⟨t,x,y,l,e,h5,h6⟩:=h4 u hu
   exact ⟨t,x,y,l,e,s3.sqT h5,h6⟩⟩) (fun Pv i x Hq H2 us hi s2 y hR hu hD2 fin _=>?_) (fun us H2 s2 hD2 hR hul=>?_)
 ·obtain ⟨rfl,ey⟩:=y
  obtain ⟨ls,g1,g2,g3,g4⟩:=hR
  obtain ⟨k,ek,t,r,zs,rfl,h1,h2,h3,_⟩:=hb.get ey
  refine ⟨t,_,rfl,s2.sqT h1,rfl,_,_,rfl,_,_,rfl,_,_,rfl,rfl,w0 _ _ _,?_⟩
  refine ⟨_,w1 _ _ _,_,w2 _ _ _,_,w3 _ _ _,r,zs,rfl,.inl (SqL.of (s2.keep _ _ h2 nmn)),fun l' hl'=>⟨by show 3<=sizeLine; decide,fun T hT=>?_⟩⟩
  have t3:=SB.new (ps:=[]) hl' (.lst zs)
  have hl3:upd H2 l' (.lst zs) l'=some (.lst zs):=upd_same
  generalize upd H2 l' (.lst zs)=H3 at t3 hl3 hT
  have t4:=SB.new (ps:=[]) hT (.tup [.str k.n,.bl k.w,.ref l'])
  have t24:=t3.trans t4
  have hl4:=t4.keep _ _ hl3 nmn
  have lD:l' ≠ D:=fun z=>by rw [z,hD2] at hl'; cases hl'
  refine fin _ _ t24 ⟨ls++[l'],?_,?_,?_,?_⟩
  ·rw [List.take_add_one,ek]
   exact (g1.sb t24 NoLst.nil).append (.cons ⟨T,l',zs,rfl,SqT.of upd_same,hl4,h3.sb (s2.trans t24) Ru.noList_enc,by simpa using lD⟩ .nil)
  ·intro z
   rcases List.mem_append.mp z with z | z
   ·exact g2 z
   ·exact lD (List.mem_singleton.mp z).symm
  ·intro p hp
   rcases List.mem_append.mp hp with hp | hp
   ·exact ⟨(g3 p hp).1,(g3 p hp).2.imp fun zs hz=>t24.keep _ _ hz nmn⟩
   ·rw [List.mem_singleton.mp hp]
    exact ⟨s2.dom _ hl',zs,hl4⟩
  ·intro u hu
   rcases List.mem_append.mp hu with hu | hu
   ·obtain ⟨t,x,y,l,e,h5,h6⟩:=g4 u hu
    exact ⟨t,x,y,l,e,t24.sqT h5,mal _ h6⟩
   ·rw [List.mem_singleton.mp hu]
    exact ⟨T,_,_,l',rfl,SqT.of upd_same,by simp⟩
 obtain ⟨ls,g1,g2,g3,g4⟩:=hR
 rw [xl,List.take_length] at g1
 exact k D us ls H2 s2 hD hD2 g1 g2 g3 g4
section
variable {σ:L2.St} {H:Hp} {t:TE} {ta tb:TE} {as:TA}
theorem zki {Q:List V->Hp->Prop} (h:t σ H fun x H1=>as σ H1 fun xs H2=>Q (x::xs) H2):tCons t as σ H Q:=h
theorem zkn {C:Addr} {sp:Sp} {E:L2.St->XK} {Q:VK} (h:as σ H fun vs H1=>∀ y dx,H1 y=none->H1 dx=none->dx ≠ y->sp (.ref y::vs) (upd (upd H1 dx (.own y)) y (.ins C dx [])) (fun v H2=>v=.non/\Q (.ref y) H2) (E σ)):z7z C sp E as σ H Q:=h
end
theorem zbm {K:PySem.W.Frag} {C B:Addr} {E:L2.St->XK} {σ:L2.St} {H:Hp} {kh:Addr} {xs:List V} {b:Bk} {Q:VK} {i a1 a2 a3:Nat} {vs:List Nat} (hσ:σ[i]?=some (some (.ref kh)))
  (w0:∀ x y z:V,wipe ((((wipe σ vs).set a1 (some x)).set a2 (some y)).set a3 (some z)) vs=wipe σ vs)
  (w1:∀ x y z:V,((((wipe σ vs).set a1 (some x)).set a2 (some y)).set a3 (some z))[a1]?=some (some x)) (w2:∀ x y z:V,((((wipe σ vs).set a1 (some x)).set a2 (some y)).set a3 (some z))[a2]?=some (some y)) (w3:∀ x y z:V,((((wipe σ vs).set a1 (some x)).set a2 (some y)).set a3 (some z))[a3]?=some (some z))
  (hkh:H kh=some (.lst xs)) (hb:KdAll K H [] xs b) (ok:b.Ok) (k:∀ y H',SB [] H H'->H y=none->BkA K C H' (.ref y) b->Q (.ref y) H') :
  z7z C (z3c K C B) E (tCons (tLc (iList K (tVar i)) (gTup K 3 (gCons (gName a1) (gCons (gName a2) (gCons (gName a3) gNil)))) tYes (tTup (tCons (tVar a1) (tCons (tVar a2) (tCons (tCB (za4 K) (tCons (tVar a3) tNil)) tNil)))) vs) tNil) σ H Q:=by
 refine zkn (zki (zgm hσ w0 w1 w2 w3 hkh hb ok.len fun D us ls H' s nD hD hK _ _ _=>?_))
 exact zbg hD hK ok fun y H2 s2 ny hbk=>k y H2 (s.trans s2) (s.dom _ ny) hbk
section
variable {X:Cx}
theorem zdn {i:Nat} {y:PySem.Str} {py:Pos} {kx vx tg iter:Expr} {ifs:List Expr} {scope:Scope} {own:List (PySem.Str × Nat)} {pos spos:Pos} {wi:TI} {g:TG} {tt:TT} {tk tv:TE} (hc:X.calm=true) (hN:X.N.Nodup) (hy:X.N[i]?=some y) (hyl:X.env.scope.names.lookup y=some .local)
  (hsw:swapsWith (.DictComp kx vx [⟨tg,iter,ifs,0⟩] scope pos) (some (.Name y py)) spos.line X.env=pure true) (hi:PI X tg iter wi) (ok:BlkOk X.N X.env.scope scope own)
  (hg:∀ (s:Shared) (H:Hp) (C:Addr) (cl:List (PySem.Str × Addr)) (fp:List Addr),L2.PG (X.blk s H scope (compEnvC scope cl C X.env) fp) tg g) (ht:∀ (s:Shared) (H:Hp) (C:Addr) (cl:List (PySem.Str × Addr)) (fp:List Addr),L2.PTs (X.blk s H scope (compEnvC scope cl C X.env) fp) ifs tt)
  (hk:∀ (s:Shared) (H:Hp) (C:Addr) (cl:List (PySem.Str × Addr)) (fp:List Addr),L2.PE (X.blk s H scope (compEnvC scope cl C X.env) fp) kx tk)
  (he:∀ (s:Shared) (H:Hp) (C:Addr) (cl:List (PySem.Str × Addr)) (fp:List Addr),L2.PE (X.blk s H scope (compEnvC scope cl C X.env) fp) vx tv) (hs:∀ x,foldedSetIterable iter X.env x=pure x:=by intro _; rfl) :
  PS X (.Assign [.Name y py] (.DictComp kx vx [⟨tg,iter,ifs,0⟩] scope pos) spos) (tAsg (tDc wi g tt tk tv (own.map (·.2))) (gName i)):=by
 refine ⟨fun pins s σ H D I h=>?_⟩
 rw [exec_Assign_Name_used _ _ _ _ hsw]
 refine wpAny_bind (wpAny_standAt (wpAny_bind ?_))
 show wpAny _ X.A (do let _ <- comprehension (.DictComp kx vx [⟨tg,iter,ifs,0⟩] scope pos) scope X.env (firstIterPos [⟨tg,iter,ifs,0⟩] pos) newDict false (eval iter X.env) (some (assign (.Name y py) X.env))) _ _ s
 have h:tDc wi g tt tk tv (own.map (·.2)) σ H (fun x H1=>gName i x σ H1 D.nx):=h
 refine wpAny_bind (thn (dc_core (Qf:=fun _ s'=>SP X pins D .next s') hc hN I hi ok hg ht hk he hs h fun L C s' m H' I' q hn f=>?_) fun _ s' hq=>wpAny_pure (wpAny_pure hq))
 show wpAny _ _ (assign (.Name y py) X.env (.ref L)) _ _ _
 refine wpAny_assign_Name (store_ok2 (v:=V.ref L) I' hN hy (.inl hyl) rfl (fun s2 I2 ⟨a,sb,ha⟩=>?_) (.inr hyl))
 obtain ⟨f0,f1,f2,f3,f4,f5⟩:=f
 have haC:C ≠ a:=by
  rcases ha with z | z
  ·rw [z]; exact f1
  ·exact fun e=>f4 y a z e.symm
 refine ⟨m,hn.sameBut sb haC,fun h3 sb3=>?_⟩
 exact ⟨_,H',I2.turned (t':=s2.toks) (fun b o hb e=>(sb3.2 b hb).trans e) f0 f1 f3 f4 f5,q⟩
theorem zck {kx vx:Expr} {gs:List Comprehension} {scope:Scope} {pos py:Pos} {y:PySem.Str} {l:Nat} {env:Env} (hk:env.scope.kind=.function) (hy:env.scope.names.lookup y=some .local) (hl:(py.line == pos.line)=true)
  (ha:(scope.names.any fun (n,k)=>n == y&&(k == .local || k == .cell))=false):swapsWith (.DictComp kx vx gs scope pos) (some (.Name y py)) l env=pure true:=by
 have ky:env.kindOf y=some .local:=hy
 have hb:env.blockKind=.function:=by unfold Env.blockKind; rw [hk]; rfl
 unfold swapsWith
 simp only [hb,ky,ha,Expr.pos,hl]
 rfl
end
def adj (b:Bk) (n:Str):List Str:=match b.get n with
 | some k=>ledR k.rs
 | none=>[]
inductive EndK (b:Bk):Str->Prop
 | mk {n:Str}:(∀ k,k ∈ adj b n->EndK b k)->EndK b n
inductive Rch (b:Bk):Str->Str->Prop
 | one {n k:Str}:k ∈ adj b n->Rch b n k
 | step {n m k:Str}:Rch b n m->k ∈ adj b m->Rch b n k
section
variable {b:Bk}
theorem zgj {n:Str} {k:Kd} (h:b.get n=some k):adj b n=ledR k.rs:=by unfold adj; rw [h]
theorem z24 (ok:b.Ok) {n k:Str} (h:k ∈ adj b n):k ∈ b.names:=by
 unfold adj at h
 split at h
 ·rename_i kd e
  exact ok.led (Bk.get_some e).1 k h
 ·cases h
theorem z1n {k:Kd} (ok:b.Ok) (hk:k ∈ b):adj b k.n=ledR k.rs:=zgj (Bk.get_self ok.nd hk)
theorem Rch.trans {n m k:Str} (h:Rch b n m) (g:Rch b m k):Rch b n k:=by
 induction g with
 | one e=>exact .step h e
 | step _ e ih=>exact .step ih e
theorem Rch.cons {n m k:Str} (h:m ∈ adj b n) (g:Rch b m k):Rch b n k:=(Rch.one h).trans g
theorem Rch.split {n k:Str} (h:Rch b n k):∃ m,m ∈ adj b n/\(m=k\/Rch b m k):=by
 induction h with
 | one e=>exact ⟨_,e,.inl rfl⟩
 | step _ e ih =>
  obtain ⟨m,hm,h⟩:=ih
  refine ⟨m,hm,.inr ?_⟩
  rcases h with h | h
  ·rw [h]; exact .one e
  ·exact .step h e
theorem EndK.next {n k:Str} (h:EndK b n) (e:k ∈ adj b n):EndK b k:=by
 cases h with
 | mk h=>exact h k e
theorem EndK.noring {n:Str} (h:EndK b n):¬ Rch b n n:=by
 induction h with
 | mk h ih =>
  intro g
  obtain ⟨m,hm,e⟩:=g.split
  refine ih m hm ?_
  rcases e with e | e
  ·rw [e]; exact g
  ·exact .step e hm
end
inductive LedAll (K:PySem.W.Frag) (H:Hp):List (Key × V)->Bk->Prop
 | nil:LedAll K H [] []
 | cons {l:Addr} {ss:List Str} {k:Kd} {kvs:List (Key × V)} {b:Bk}:H l=some (.lst (ss.map V.str))->SrtOf ss (ledR k.rs)->LedAll K H kvs b->LedAll K H ((Sum.inr k.n,.ref l)::kvs) (k::b)
section
variable {K:PySem.W.Frag} {H H':Hp}
theorem LedAll.length:∀ {kvs:List (Key × V)} {b:Bk},LedAll K H kvs b->kvs.length=b.length
 | _,_,.nil=>rfl
 | _,_,.cons _ _ t=>congrArg (·+1) t.length
theorem LedAll.keep (h:∀ l xs,H l=some (.lst xs)->H' l=some (.lst xs)):∀ {kvs:List (Key × V)} {b:Bk},LedAll K H kvs b->LedAll K H' kvs b
 | _,_,.nil=>.nil
 | _,_,.cons a s t=>.cons (h _ _ a) s (LedAll.keep h t)
theorem LedAll.append:∀ {kvs kws:List (Key × V)} {b c:Bk},LedAll K H kvs b->LedAll K H kws c->LedAll K H (kvs++kws) (b++c)
 | _,_,_,_,.nil,h=>h
 | _,_,_,_,.cons a s t,h=>.cons a s (t.append h)
theorem LedAll.val {n:Str} {k:Kd}:∀ {kvs:List (Key × V)} {b:Bk},LedAll K H kvs b->b.get n=some k->∃ l ss,valV kvs (Sum.inr n)=some (.ref l)/\H l=some (.lst (ss.map V.str))/\SrtOf ss (ledR k.rs)
 | _,_,.nil,e=>by simp [Bk.get] at e
 | _,_,.cons (l:=l) (ss:=ss) (k:=kk) (b:=bb) a s t,e=>by
  by_cases h:kk.n=n
  ·have e':kk=k:=by
    have:Bk.get (kk::bb) n=some kk:=by simp [Bk.get,h]
    rw [this] at e; exact Option.some.inj e
   subst e'
   exact ⟨l,ss,valV_pos (by rw [h]),a,s⟩
  ·have e':Bk.get bb n=some k:=by
    unfold Bk.get at e
    rw [List.find?_cons_of_neg (by simpa using h)] at e
    exact e
   obtain ⟨l',ss',h1,h2,h3⟩:=t.val e'
   exact ⟨l',ss',by rw [valV_neg (fun z=>h (Sum.inr.inj z))]; exact h1,h2,h3⟩
theorem LedAll.get:∀ {kvs:List (Key × V)} {b:Bk} {i:Nat} {p:Key × V},LedAll K H kvs b->kvs[i]?=some p->∃ k,b[i]?=some k/\p.1=Sum.inr k.n
 | _,_,_,_,.nil,e=>by simp at e
 | _,_,0,_,.cons a s t,e=>by
  obtain rfl:=Option.some.inj e
  exact ⟨_,rfl,rfl⟩
 | _,_,i+1,_,.cons a s t,e=>t.get (i:=i) e
end
def into (b:Bk) (es:List Str) (n:Str):Bool:=decide (n ∉ es)&&(adj b n).all fun k=>decide (k ∈ es)
def z4g (K:PySem.W.Frag):Sp:=fun vs H Q _=>∃ (d e:Addr) (b:Bk) (es:List Str) (kvs:List (Key × V)),vs=[.ref d,.ref e]/\H d=some (.dK kvs)/\LedAll K H kvs b/\H e=some (.lst (es.map V.str))/\b.Ok/\∀ (l:Addr) (H':Hp),SB [] H H'->H l=none->H' l=some (.lst ((b.names.filter (into b es)).map V.str))->Q (.ref l) H'
def z52 (K:PySem.W.Frag) (C N:Addr):Sp:=fun vs H Q E=>∃ (v:V) (b:Bk),vs=[v]/\BkA K C H v b/\b.Ok/\∀ (l:Addr) (ss:List Str) (H':Hp),SB [] H H'->H l=none->H' l=some (.lst (ss.map V.str))->sortedS ss=true->ss.Nodup->(∀ n,n ∈ ss ↔ n ∈ b.names/\¬ EndK b n)->Q (.ref l) H'
theorem SB.unlock {H H':Hp} {d:Addr} {od:Obj} {u:HO} (s:SB [] (upd H d (.frz od u)) H') (hd:H d=some u) (n1:∀ xs,u ≠ .tup xs) (n2:∀ o v,u ≠ .frz o v):SB [] H (upd H' d u):=by
 refine ⟨fun b o e _=>?_,fun b xs e=>?_,fun b o v e=>?_,fun b e=>?_⟩
 ·by_cases z:b=d
  ·rw [z,upd_same]; rw [z,hd] at e; exact e
  ·rw [upd_ne z]; exact s.keep b o (by rw [upd_ne z]; exact e) nmn
 ·have z:b ≠ d:=fun z=>by rw [z,hd] at e; exact n1 _ (Option.some.inj e)
  rw [upd_ne z]; exact s.tups b xs (by rw [upd_ne z]; exact e)
 ·have z:b ≠ d:=fun z=>by rw [z,hd] at e; exact n2 _ _ (Option.some.inj e)
  rw [upd_ne z]; exact s.frzs b o v (by rw [upd_ne z]; exact e)
 ·have z:b ≠ d:=fun z=>by rw [z,upd_same] at e; cases e
  rw [upd_ne z] at e
  have:=s.dom b e
  rwa [upd_ne z] at this
theorem zgz {ss ks:List Str} (so:SrtOf ss ks) (p:Str->Bool):ss.all p=ks.all p:=by
 rw [Bool.eq_iff_iff,List.all_eq_true,List.all_eq_true]
 exact ⟨fun h x hx=>h x ((so.mem x).mpr hx),fun h x hx=>h x ((so.mem x).mp hx)⟩
theorem zl5 {H:Hp} {d:Addr} {kvs:List (Key × V)} {n:Str} {v:V} (h:L2.Rd H d (.dK kvs)) (e:valV kvs (Sum.inr n)=some v):DGet H d (.str n) (some v):=.inl ⟨kvs,Sum.inr n,h,rfl,e.symm⟩
theorem LedAll.sb {K:PySem.W.Frag} {H H':Hp} {ps:List Addr} (e:SB ps H H'):∀ {kvs:List (Key × V)} {b:Bk},LedAll K H kvs b->(∀ p ∈ kvs,∀ q ∈ ps,p.2 ≠ .ref q)->LedAll K H' kvs b
 | _,_,.nil,_=>.nil
 | _,_,.cons a s t,h=>.cons (e.keep _ _ a fun z=>h _ mcs _ z rfl) s (LedAll.sb e t fun p hp=>h p (mcm _ hp))
theorem LedAll.ne {K:PySem.W.Frag} {H:Hp} {q:Addr} (hq:H q=none):∀ {kvs:List (Key × V)} {b:Bk},LedAll K H kvs b->∀ p ∈ kvs,p.2 ≠ .ref q
 | _,_,.nil,p,hp=>by cases hp
 | _,_,.cons a s t,p,hp=>by
  rcases List.mem_cons.mp hp with e | e
  ·rw [e]
   intro z
   rw [V.ref.inj z] at a
   rw [a] at hq; cases hq
  ·exact LedAll.ne hq t p e
theorem LedAll.keys {K:PySem.W.Frag} {H:Hp}:∀ {kvs:List (Key × V)} {b:Bk},LedAll K H kvs b->kvs.map (·.1)=b.names.map Sum.inr
 | _,_,.nil=>rfl
 | _,_,.cons a s t=>by rw [List.map_cons,LedAll.keys t]; rfl
theorem zav {b:Bk} (ok:b.Ok) {es:List Str} (h:b.names.filter (into b es)=[]) {n:Str} (e:EndK b n):n ∈ b.names->n ∈ es:=by
 induction e with
 | @mk n _ ih =>
  intro hn
  refine Classical.byContradiction fun z=>?_
  have:n ∈ b.names.filter (into b es):=List.mem_filter.mpr ⟨hn,by
   unfold into
   rw [Bool.and_eq_true,decide_eq_true_eq,List.all_eq_true]
   exact ⟨z,fun k hk=>decide_eq_true (ih k hk (z24 ok hk))⟩⟩
  rw [h] at this; cases this
section
variable {J:It} {n:Nat} {G:Hp->Prop} {Y:Nat->Hp->V->Hp->Prop}
theorem zgy (w:Walk J n G Y) {g:TG} {tt:TT} {tk tv:TE} {vs:List Nat} {σ:L2.St} {H:Hp} {D:Addr} {Qd:Hp->Prop} (hD:H D=none) (hn:n < sizeLine) (R:Nat->List (Key × V)->Hp->Prop) (h0:R 0 [] H) (hG:∀ H2,SB [] H H2->G H2)
  (st:∀ i us H2 H3,SB [D] H2 H3->R i us H2->R i us H3)
  (turn:∀ (Pv:Hp->Prop) i x H2 H' kvs,i < n->SB [] H H2->Y i H2 x H'->R i kvs H2->kvs.length<=i->H2 D=some (.dK kvs)->(∀ k z H5,SB [] H2 H5->R (i+1) (putK kvs k z) H5->∃ kvs k',kV k=kV k'/\H5 D=some (.dK kvs)/\kvs.length < sizeLine/\Pv (upd H5 D (.dK (putK kvs k' z)))) ->
   (∀ H4,SB [] H2 H4->R (i+1) kvs H4->Pv H4)->g x (wipe σ vs) H' fun σ2 H3=>wipe σ2 vs=wipe σ vs/\tt σ2 H3 fun b H4 =>
    if b=true then tk σ2 H4 fun y H5=>tv σ2 H5 fun z H6=>∃ kvs k,y=kV k/\H6 D=some (.dK kvs)/\kvs.length < sizeLine/\Pv (upd H6 D (.dK (putK kvs k z))) else Pv H4)
  (done:∀ kvs H2,SB [] H H2->H2 D=some (.dK kvs)->R n kvs H2->kvs.length<=n->Qd H2) :
  ∃ W:Nat->Nat->Hp->Prop,(∃ m,W 0 m (upd H D (.dK [])))/\∀ i m H,W i m H ->
   (J.stop i H/\Qd H)\/(J.go i H/\∃ Nx:Hp->Prop,(∀ H',Nx H'->∃ m',m' < m/\W (i+1) m' H')/\∀ x H',J.yld i H x H'->g x (wipe σ vs) H' fun σ2 H2=>wipe σ2 vs=wipe σ vs/\tt σ2 H2 fun b H3 =>
    if b=true then tk σ2 H3 fun y H4=>tv σ2 H4 fun z H5=>∃ kvs k,y=kV k/\H5 D=some (.dK kvs)/\kvs.length < sizeLine/\Nx (upd H5 D (.dK (putK kvs k z))) else Nx H3):=by
 refine lcG (body:=fun Nx x H'=>g x (wipe σ vs) H' fun σ2 H2=>wipe σ2 vs=wipe σ vs/\tt σ2 H2 fun b H3 =>
    if b=true then tk σ2 H3 fun y H4=>tv σ2 H4 fun z H5=>∃ kvs k,y=kV k/\H5 D=some (.dK kvs)/\kvs.length < sizeLine/\Nx (upd H5 D (.dK (putK kvs k z))) else Nx H3) w (fun i H2=>SB [D] H H2/\∃ kvs,H2 D=some (.dK kvs)/\R i kvs H2/\kvs.length<=i)
  ⟨SB.new hD _,[],upd_same,st _ _ _ _ (SB.new hD _) h0,Nat.le_refl _⟩ (fun i H2 _ h=>hG H2 (h.1.drop hD)) (fun i x H2 H' hi h y=>?_) (fun H2 h=>?_)
 ·obtain ⟨s2,kvs,hD2,hR,hl⟩:=h
  refine turn _ i x H2 H' kvs hi (s2.drop hD) y hR hl hD2 (fun k z H5 s5 r5=>?_) (fun H4 s4 r4=>⟨s2.trans s4.nil,kvs,s4.keep _ _ hD2 nmn,r4,by omega⟩)
  have hD5:=s5.keep _ _ hD2 nmn
  refine ⟨kvs,k,rfl,hD5,by omega,(s2.trans s5.nil).trans (SB.setD hD5 (by simp) _),_,upd_same,st _ _ _ _ (SB.setD hD5 (by simp) _) r5,?_⟩
  have:=length_putK kvs k z
  omega
 ·obtain ⟨s2,kvs,hD2,hR,hl⟩:=h
  exact done kvs H2 (s2.drop hD) hD2 hR hl
end
theorem zb4 {b:Bk} (nd:b.names.Nodup) {i:Nat} {k:Kd} (ek:b[i]?=some k):k.n ∉ Bk.names (b.take i):=by
 have e:b=b.take i++k::b.drop (i+1):=by
  have hl:i < b.length:=(List.getElem?_eq_some_iff.mp ek).1
  have:=List.drop_eq_getElem_cons hl
  rw [(List.getElem?_eq_some_iff.mp ek).2] at this
  rw [<- this,List.take_append_drop]
 have h:b.names=Bk.names (b.take i)++k.n::Bk.names (b.drop (i+1)):=by
  conv=>lhs; rw [e]
  rw [Bk.names,List.map_append]; rfl
 rw [h] at nd
 exact fun z=>(List.nodup_append.mp nd).2.2 _ z _ mcs rfl
theorem z0f {γ:Type} [DecidableEq γ] (p:γ × Int) (r:List (γ × Int)) (x:γ):sumE (p::r) x=(if p.1=x then p.2 else 0)+sumE r x:=rfl
namespace Gr
def woL (t:Tr) (m:Int):List (Tr × Int)->List (Tr × Int)
 | []=>[]
 | p::r=>if p.1 ≠ t then p::woL t m r else if m < p.2 then (p.1,p.2-m)::woL t m r else woL t m r
theorem woL_append (t:Tr) (m:Int):∀ as bs:List (Tr × Int),woL t m (as++bs)=woL t m as++woL t m bs
 | [],bs=>rfl
 | p::as,bs=>by
  simp only [List.cons_append,woL,woL_append t m as bs]
  split
  ·rfl
  ·split <;> rfl
theorem woL_none {t:Tr} {m:Int}:∀ {bs:List (Tr × Int)},(∀ p ∈ bs,p.1 ≠ t)->woL t m bs=bs
 | [],_=>rfl
 | p::r,h=>by
  rw [woL,if_pos (h p (by simp)),woL_none fun q hq=>h q (by simp [hq])]
theorem woL_mem {t:Tr} {m:Int} (hm:0<=m):∀ {bs:List (Tr × Int)} {p:Tr × Int},p ∈ woL t m bs->∃ q ∈ bs,q.1=p.1/\p.2<=q.2/\(1<=q.2->1<=p.2)
 | [],_,h=>nomatch h
 | q::r,p,h=>by
  rw [woL] at h
  split at h
  ·rcases List.mem_cons.mp h with e | h
   ·exact ⟨q,by simp,by rw [e],by rw [e]; exact Int.le_refl _,by rw [e]; exact id⟩
   ·obtain ⟨q',h1,h2⟩:=woL_mem hm h; exact ⟨q',by simp [h1],h2⟩
  ·split at h
   ·rcases List.mem_cons.mp h with e | h
    ·exact ⟨q,by simp,by rw [e],by rw [e]; show q.2-m<=q.2; omega,by rw [e]; show _->1<=q.2-m; omega⟩
    ·obtain ⟨q',h1,h2⟩:=woL_mem hm h; exact ⟨q',by simp [h1],h2⟩
   ·obtain ⟨q',h1,h2⟩:=woL_mem hm h; exact ⟨q',by simp [h1],h2⟩
theorem woL_key {t:Tr} {m:Int}:∀ {bs:List (Tr × Int)} {p:Tr × Int},p ∈ woL t m bs->∃ q ∈ bs,q.1=p.1
 | [],_,h=>nomatch h
 | q::r,p,h=>by
  rw [woL] at h
  split at h
  ·rcases List.mem_cons.mp h with e | h
   ·exact ⟨q,by simp,by rw [e]⟩
   ·obtain ⟨q',h1,h2⟩:=woL_key h; exact ⟨q',by simp [h1],h2⟩
  ·split at h
   ·rcases List.mem_cons.mp h with e | h
    ·exact ⟨q,by simp,by rw [e]⟩
    ·obtain ⟨q',h1,h2⟩:=woL_key h; exact ⟨q',by simp [h1],h2⟩
   ·obtain ⟨q',h1,h2⟩:=woL_key h; exact ⟨q',by simp [h1],h2⟩
theorem woL_pair {R:Tr->Tr->Prop} {t:Tr} {m:Int}:∀ {bs:List (Tr × Int)},bs.Pairwise (fun p q=>R p.1 q.1)->(woL t m bs).Pairwise (fun p q=>R p.1 q.1)
 | [],_=>.nil
 | p::r,h=>by
  obtain ⟨h1,h2⟩:=List.pairwise_cons.mp h
  have ih:=woL_pair (t:=t) (m:=m) h2
  have hk:∀ q ∈ woL t m r,R p.1 q.1:=fun q hq=>by
   obtain ⟨q',hq',e⟩:=woL_key hq
   rw [<- e]; exact h1 q' hq'
  rw [woL]
  split
  ·exact List.pairwise_cons.mpr ⟨hk,ih⟩
  ·split
   ·exact List.pairwise_cons.mpr ⟨hk,ih⟩
   ·exact ih
theorem woL_tot (t:Tr) (m:Int):∀ bs:List (Tr × Int),tot (woL t m bs)<=tot bs
 | []=>Nat.le_refl _
 | p::r=>by
  have ih:=woL_tot t m r
  rw [woL]
  split
  ·simp only [tot]; omega
  ·split
   ·simp only [tot]; omega
   ·simp only [tot]; omega
theorem woL_len (t:Tr) (m:Int):∀ bs:List (Tr × Int),(woL t m bs).length<=bs.length
 | []=>Nat.le_refl _
 | p::r=>by
  have ih:=woL_len t m r
  rw [woL]
  split
  ·simp only [List.length_cons]; omega
  ·split
   ·simp only [List.length_cons]; omega
   ·simp only [List.length_cons]; omega
theorem sumE_woL {t:Tr} {m:Int} (x:Tr):∀ {bs:List (Tr × Int)},bs.Pairwise (fun p q=>p.1 ≠ q.1)->(∀ p ∈ bs,0 < p.2)->0<=m->sumE (woL t m bs) x=if x=t then (if m < sumE bs t then sumE bs t-m else 0) else sumE bs x
 | [],_,_,hm=>by
  show (0:Int)=if x=t then (if m < 0 then 0-m else 0) else 0
  split
  ·rw [if_neg (by omega)]
  ·rfl
 | p::r,h,hp,hm=>by
  obtain ⟨h1,h2⟩:=List.pairwise_cons.mp h
  have ih:=sumE_woL (t:=t) (m:=m) x h2 (fun q hq=>hp q (by simp [hq])) hm
  rw [woL]
  by_cases e:p.1=t
  ·rw [if_neg (by simpa using e)]
   have hr:∀ q ∈ r,q.1 ≠ t:=fun q hq z=>h1 q hq (by rw [e,z])
   have z0:sumE r t=0:=S_zero hr
   rw [woL_none hr,z0f p r t,if_pos e,z0,Int.add_zero]
   by_cases hlt:m < p.2
   ·rw [if_pos hlt,if_pos hlt,z0f]
    by_cases hx:x=t
    ·rw [if_pos hx,hx,if_pos (by exact e),z0]; simp
    ·rw [if_neg hx,if_neg (by rw [e]; exact fun z=>hx z.symm),z0f,if_neg (by rw [e]; exact fun z=>hx z.symm)]
   ·rw [if_neg hlt,if_neg hlt]
    by_cases hx:x=t
    ·rw [if_pos hx,hx,z0]
    ·rw [if_neg hx,z0f,if_neg (by rw [e]; exact fun z=>hx z.symm),Int.zero_add]
  ·rw [if_pos e,z0f,ih,z0f p r t,if_neg e,Int.zero_add]
   by_cases hx:x=t
   ·rw [if_pos hx,if_pos hx,hx,if_neg e,Int.zero_add]
   ·rw [if_neg hx,if_neg hx,z0f]
def wo (g:Gr) (t:Tr) (m:Int):Gr:=ofPs (woL t m g.ps)
theorem wo_ps (g:Gr) (t:Tr) (m:Int):(wo g t m).ps=woL t m g.ps:=ps_ofPs _
variable {C D E:Int} {g k:Gr}
theorem ok_ne (h:g.Ok C):g.ps.Pairwise (fun p q=>p.1 ≠ q.1):=(ok_iff.mp h).2.imp fun z=>zff z
theorem ok_pos (h:g.Ok C):∀ p ∈ g.ps,0 < p.2:=fun p hp=>by have:=((ok_iff.mp h).1 p hp).2.2.1; omega
theorem wo_ok (h:g.Ok C) {t:Tr} {m:Int} (hm:0<=m):(wo g t m).Ok C:=by
 obtain ⟨h1,h2⟩:=ok_iff.mp h
 refine ok_ps.mpr ⟨fun p hp=>?_,woL_pair (R:=fun a b=>dataLt (tEnc a) (tEnc b)=true) h2⟩
 obtain ⟨q,hq,e,l,o⟩:=woL_mem hm hp
 obtain ⟨a,b,c,d⟩:=h1 q hq
 rw [<- e]
 exact ⟨a,b,o c,by omega⟩
theorem S_wo (h:g.Ok C) {t:Tr} {m:Int} (hm:0<=m) (x:Tr):S (wo g t m) x=if x=t then (if m < S g t then S g t-m else 0) else S g x:=by
 show sumE (wo g t m).ps x=_
 rw [wo_ps]; exact sumE_woL x (ok_ne h) (ok_pos h) hm
theorem wo_parts (g:Gr) (t:Tr) (m:Int):(wo g t m).parts<=g.parts:=by
 rw [wo,parts_ofPs,<- tot_ps g]; exact woL_tot _ _ _
theorem wo_len (g:Gr) (t:Tr) (m:Int):(wo g t m).ps.length<=g.ps.length:=by rw [wo_ps]; exact woL_len _ _ _
theorem wo_deep (g:Gr) (t:Tr) (m:Int):(wo g t m).deep<=g.deep:=by
 refine deep_le fun p hp=>?_
 rw [wo_ps] at hp
 obtain ⟨q,hq,e⟩:=woL_key hp
 rw [<- e]; exact mem_deep g q hq
theorem sumE_mem:∀ {bs:List (Tr × Int)},bs.Pairwise (fun p q=>p.1 ≠ q.1)->∀ p ∈ bs,sumE bs p.1=p.2
 | [],_,_,h=>nomatch h
 | q::r,h,p,hp=>by
  obtain ⟨h1,h2⟩:=List.pairwise_cons.mp h
  rw [z0f]
  rcases List.mem_cons.mp hp with e | hp
  ·rw [e,if_pos rfl,S_zero fun q' hq' z=>h1 q' hq' z.symm,Int.add_zero]
  ·rw [if_neg (h1 p hp),Int.zero_add]; exact sumE_mem h2 p hp
theorem S_mem (h:g.Ok C) {p:Tr × Int} (hp:p ∈ g.ps):S g p.1=p.2:=sumE_mem (ok_ne h) p hp
theorem S_cases (h:g.Ok C) (x:Tr):(S g x=0/\∀ p ∈ g.ps,p.1 ≠ x)\/∃ m,(x,m) ∈ g.ps/\S g x=m/\1<=m/\m < C:=by
 by_cases e:∃ p ∈ g.ps,p.1=x
 ·obtain ⟨p,hp,rfl⟩:=e
  obtain ⟨_,_,c,d⟩:=(ok_iff.mp h).1 p hp
  exact .inr ⟨p.2,hp,S_mem h hp,c,d⟩
 ·have h':∀ p ∈ g.ps,p.1 ≠ x:=fun p hp z=>e ⟨p,hp,z⟩
  exact .inl ⟨S_zero h',h'⟩
theorem S_nonneg (h:g.Ok C) (x:Tr):0<=S g x:=by
 rcases S_cases h x with ⟨e,_⟩ | ⟨m,_,e,h1,_⟩
 ·omega
 ·omega
theorem S_lt (h:g.Ok C) (hC:1<=C) (x:Tr):S g x < C:=by
 rcases S_cases h x with ⟨e,_⟩ | ⟨m,_,e,_,h1⟩
 ·omega
 ·omega
theorem S_pos (h:g.Ok C) {x:Tr} (hx:1<=S g x):∃ m,(x,m) ∈ g.ps/\S g x=m:=by
 rcases S_cases h x with ⟨e,_⟩ | ⟨m,h1,e,_⟩
 ·omega
 ·exact ⟨m,h1,e⟩
theorem tgt_okM (hg:∀ p ∈ g.ps,z02 p.1.1/\p.1.2.Ok E/\1<=p.2) (hk:∀ p ∈ k.ps,z02 p.1.1/\p.1.2.Ok E/\1<=p.2) (h:∀ t,S g t+S k t < E):(tgt g k).Ok E:=by
 have hr:=z9g (enc:=tEnc) (g.ps++k.ps)
 have hall:∀ p ∈ g.ps++k.ps,z02 p.1.1/\p.1.2.Ok E/\1<=p.2:=fun p hp=>(List.mem_append.mp hp).elim (hg p) (hk p)
 refine ok_ps.mpr ⟨fun p hp=>?_,hr⟩
 obtain ⟨q,hq,e⟩:=z2i (enc:=tEnc) _ p hp
 obtain ⟨a,b,_⟩:=hall q hq
 have h1:=(za3 (enc:=tEnc) (fun p hp=>(hall p hp).2.2) p hp).1
 have e2:sumE (tdy tEnc (g.ps++k.ps)) p.1=p.2:=sumE_mem (hr.imp fun z=>zff z) p hp
 rw [z8j,z0x] at e2
 have:=h p.1
 refine ⟨e ▸ a,e ▸ b,h1,?_⟩
 show p.2 < E
 rw [<- e2]; exact this
theorem ok_three (h:g.Ok C) (hC:C<=E):∀ p ∈ g.ps,z02 p.1.1/\p.1.2.Ok E/\1<=p.2:=fun p hp=>by
 obtain ⟨a,b,c,_⟩:=(ok_iff.mp h).1 p hp
 exact ⟨a,b.mono hC,c⟩
theorem tgt_ok2 (hg:g.Ok C) (hk:k.Ok D) (hC:1<=C) (hD:1<=D):(tgt g k).Ok (C+D):=by
 refine tgt_okM (ok_three hg (by omega)) (ok_three hk (by omega)) fun t=>?_
 have:=S_lt hg hC t
 have:=S_lt hk hD t
 omega
theorem tgt_nil (hg:g.Ok C):tgt g .nil=g:=by
 have hS:∀ t,S (tgt g .nil) t=S g t:=fun t=>by rw [S_tgt]; exact Int.add_zero _
 cases g with
 | nil=>exact ext (tgt_ok2 (C:=1) (D:=1) (g:=.nil) (k:=.nil) trivial trivial (by omega) (by omega)) hg hS
 | cons n h m r =>
  have hC:1<=C:=by have:=hg.2.2.1; have:=hg.2.2.2.1; omega
  exact ext (tgt_ok2 hg (k:=.nil) (D:=1) trivial hC (by omega)) hg hS
def tmsL (m:Int) (bs:List (Tr × Int)):List (Tr × Int):=bs.map fun p=>(p.1,p.2*m)
def tmsG (g:Gr) (m:Int):Gr:=if m=0 then .nil else ofPs (tmsL m g.ps)
theorem tot_tms (m:Int):∀ bs:List (Tr × Int),tot (tmsL m bs)=tot bs
 | []=>rfl
 | p::r=>by
  show 1+p.1.2.parts+tot (tmsL m r)=1+p.1.2.parts+tot r
  rw [tot_tms m r]
theorem tms_parts (g:Gr) (m:Int):(tmsG g m).parts<=g.parts:=by
 rw [tmsG]
 split
 ·exact Nat.zero_le _
 ·rw [parts_ofPs,tot_tms,tot_ps]; exact Nat.le_refl _
theorem tms_len (g:Gr) (m:Int):(tmsG g m).ps.length<=g.ps.length:=by
 rw [tmsG]
 split
 ·exact Nat.zero_le _
 ·rw [ps_ofPs,tmsL,List.length_map]; exact Nat.le_refl _
theorem tms_key {m:Int} {p:Tr × Int} (hp:p ∈ (tmsG g m).ps):∃ q ∈ g.ps,q.1=p.1:=by
 rw [tmsG] at hp
 split at hp
 ·exact nomatch hp
 ·rw [ps_ofPs] at hp
  obtain ⟨q,hq,e⟩:=List.mem_map.mp hp
  exact ⟨q,hq,by rw [<- e]⟩
theorem tms_deep (g:Gr) (m:Int):(tmsG g m).deep<=g.deep:=by
 refine deep_le fun p hp=>?_
 obtain ⟨q,hq,e⟩:=tms_key hp
 rw [<- e]; exact mem_deep g q hq
theorem tms_ok (h:g.Ok C) (hC:1<=C) {m:Int} (hm:0<=m):(tmsG g m).Ok (C*m+C):=by
 have hle:C<=C*m+C:=by have:=Int.mul_nonneg (show (0:Int)<=C by omega) hm; omega
 rw [tmsG]
 split
 ·trivial
 ·obtain ⟨h1,h2⟩:=ok_iff.mp h
  refine ok_ps.mpr ⟨fun p hp=>?_,?_⟩
  ·obtain ⟨q,hq,rfl⟩:=List.mem_map.mp hp
   obtain ⟨a,b,c,d⟩:=h1 q hq
   have m1:1<=m:=by omega
   refine ⟨a,b.mono hle,?_,?_⟩
   ·show 1<=q.2*m
    have:=Int.mul_le_mul c m1 (by omega) (by omega)
    omega
   ·show q.2*m < C*m+C
    have:=Int.mul_le_mul_of_nonneg_right (show q.2<=C by omega) hm
    omega
  ·exact List.pairwise_map.mpr (h2.imp fun z=>z)
def pos (g:Gr) (t:Tr):Nat:=(g.ps.map (·.1)).idxOf t
theorem pos_at (h:g.Ok C) {t:Tr} {m:Int} (hp:(t,m) ∈ g.ps):g.ps[pos g t]?=some (t,m):=by
 have ht:t ∈ g.ps.map (·.1):=List.mem_map.mpr ⟨_,hp,rfl⟩
 have hl:pos g t < (g.ps.map (·.1)).length:=List.idxOf_lt_length_of_mem ht
 have hl2:pos g t < g.ps.length:=by rwa [List.length_map] at hl
 have e:(g.ps.map (·.1))[pos g t]=t:=List.getElem_idxOf hl
 rw [List.getElem_map] at e
 rw [List.getElem?_eq_getElem hl2]
 have hm:=List.getElem_mem hl2
 have e1:=S_mem h hm
 have e2:=S_mem h hp
 rw [e] at e1
 have e3:(g.ps[pos g t]).2=m:=by rw [<- e1]; exact e2
 exact congrArg some (Prod.ext e e3)
theorem pos_of (h:g.Ok C) {i:Nat} {p:Tr × Int} (hp:g.ps[i]?=some p):pos g p.1=i:=by
 have h1:=pos_at (t:=p.1) (m:=p.2) h (List.mem_of_getElem? hp)
 obtain ⟨hi,ei⟩:=List.getElem?_eq_some_iff.mp hp
 obtain ⟨hj,ej⟩:=List.getElem?_eq_some_iff.mp h1
 have nd:(g.ps.map (·.1)).Nodup:=List.pairwise_map.mpr (ok_ne h)
 refine (List.getElem?_inj (by rw [List.length_map]; exact hj) nd).mp ?_
 rw [List.getElem?_map,List.getElem?_map,h1,hp]
def Named (ns:List Str) (g:Gr):Prop:=∀ x ∈ g.within,x.1.1 ∈ ns
theorem named_iff {ns:List Str}:Named ns g ↔ ∀ p ∈ g.ps,p.1.1 ∈ ns/\Named ns p.1.2:=by
 unfold Named
 rw [within_ps]
 constructor
 ·intro h p hp
  exact ⟨h p (List.mem_flatMap.mpr ⟨p,hp,by simp⟩),fun x hx=>h x (List.mem_flatMap.mpr ⟨p,hp,by simp [hx]⟩)⟩
 ·intro h x hx
  obtain ⟨p,hp,hx⟩:=List.mem_flatMap.mp hx
  rcases List.mem_cons.mp hx with e | hx
  ·rw [e]; exact (h p hp).1
  ·exact (h p hp).2 x hx
theorem named_wo {ns:List Str} (h:Named ns g) (t:Tr) (m:Int):Named ns (wo g t m):=named_iff.mpr fun p hp=>by
 rw [wo_ps] at hp
 obtain ⟨q,hq,e⟩:=woL_key hp
 rw [<- e]; exact named_iff.mp h q hq
theorem named_tms {ns:List Str} (h:Named ns g) (m:Int):Named ns (tmsG g m):=named_iff.mpr fun p hp=>by
 obtain ⟨q,hq,e⟩:=tms_key hp
 rw [<- e]; exact named_iff.mp h q hq
theorem named_tgt {ns:List Str} (h:Named ns g) (h2:Named ns k):Named ns (tgt g k):=named_iff.mpr fun p hp=>by
 rw [tgt_ps] at hp
 obtain ⟨q,hq,e⟩:=z2i (enc:=tEnc) _ p hp
 rw [<- e]
 rcases List.mem_append.mp hq with hq | hq
 ·exact named_iff.mp h q hq
 ·exact named_iff.mp h2 q hq
def one (t:Tr) (m:Int):Gr:=.cons t.1 t.2 m .nil
theorem one_ps (t:Tr) (m:Int):(one t m).ps=[(t,m)]:=rfl
theorem S_one (t:Tr) (m:Int) (x:Tr):S (one t m) x=if t=x then m else 0:=by
 show sumE [(t,m)] x=_
 rw [z0f]; exact Int.add_zero _
theorem one_ok {t:Tr} {m:Int} (h1:z02 t.1) (h2:t.2.Ok C) (h3:1<=m) (h4:m < C):(one t m).Ok C:=⟨h1,h2,h3,h4,trivial,fun _ h=>nomatch h⟩
theorem named_one {ns:List Str} {t:Tr} (h:t.1 ∈ ns) (h2:Named ns t.2) (m:Int):Named ns (one t m):=named_iff.mpr fun p hp=>by
 rw [one_ps] at hp
 rw [List.mem_singleton.mp hp]; exact ⟨h,h2⟩
end Gr
def Wd (d:PyData):Prop:=d.canLay0=true/\d.depth<=190
theorem Wd.of {d:PyData} (h:SeqAt.shaped d=true):Wd d:=⟨SeqAt.canLay_of_shaped h,by have:=SeqAt.depth_of_shaped h; omega⟩
def rEqW (K:PySem.W.Frag):R2:=fun x y H Q=>∃ d e,Dp K H x d/\Dp K H y e/\Wd d/\Wd e/\Q (.bl (PyData.eqv d e)) H
def rNeW (K:PySem.W.Frag):R2:=fun x y H Q=>∃ d e,Dp K H x d/\Dp K H y e/\Wd d/\Wd e/\Q (.bl (!PyData.eqv d e)) H
section
variable {X:Cx}
theorem zbe {n:Nat} {d e:PyData} (hd:Wd d) (hu:n+195 < cLine):n+min d.depth e.depth < cLine:=by
 have h1:=hd.2
 have h2:min d.depth e.depth<=d.depth:=Nat.min_le_left ..
 omega
theorem z34 (hu:X.A.units+195 < cLine):OpR X (compareOp .Eq) (rEqW X.K):=by
 intro pn s σ H a b v1 v2 Q I ra rb ⟨d,e,da,db,wd,we,q⟩
 obtain ⟨l1,k1⟩:=Dp.reads I d a v1 da ra
 obtain ⟨l2,k2⟩:=Dp.reads I e b v2 db rb
 exact SeqAt.compareEq_reads k1 k2 wd.1 we.1 (zbe wd hu) ⟨.bl _,H,I,rfl,q⟩
theorem z38 (hu:X.A.units+195 < cLine):OpR X (compareOp .NotEq) (rNeW X.K):=by
 intro pn s σ H a b v1 v2 Q I ra rb ⟨d,e,da,db,wd,we,q⟩
 obtain ⟨l1,k1⟩:=Dp.reads I d a v1 da ra
 obtain ⟨l2,k2⟩:=Dp.reads I e b v2 db rb
 exact SeqAt.compareNe_reads k1 k2 wd.1 we.1 (zbe wd hu) ⟨.bl _,H,I,rfl,q⟩
def zgl (K:PySem.W.Frag):V->List V->Hp->VK->Prop:=fun x xs H Q=>∃ (a:Addr) (y:V) (d:PyData) (ds:List PyData) (j:Nat) (z:PyData),x=V.ref a/\xs=[y]/\Dp K H (V.ref a) (.list ds)/\Dp K H y d /\
 PyData.canLayAll0 ds=true/\Wd d/\ds[j]?=some z/\PyData.eqv z d=true/\(∀ (m:Nat) (z':PyData),m < j->ds[m]?=some z'->PyData.eqv z' d=false)/\Q (.int (j:Nat)) H
theorem zc9 (hu:X.A.units+196 < cLine):MtR X "list.index" (zgl X.K):=by
 intro pn s σ H x xs v us Q I rx rs ⟨a,y,d,ds,j,z,ex,exs,dl,dy,lay,wd,ez,eqz,before,q⟩
 subst ex exs
 cases rx
 cases rs with
 | cons ry rt =>
  rename_i uy ut
  cases rt
  obtain ⟨ls,k1⟩:=Dp.reads I d y uy dy ry
  have room:X.A.units+1+min (PyData.depthAll ds) d.depth < cLine:=by
   have h1:=wd.2
   have h2:min (PyData.depthAll ds) d.depth<=d.depth:=Nat.min_le_right ..
   omega
  cases dl with
  | lst dh da =>
   obtain ⟨its,vals,⟨⟨c1,c2,c3,c4⟩,cnt,hget,hcls,hdict,hdata⟩,hlen⟩:=I.list dh
   simp only at hcls hdata
   subst hcls hdata
   obtain ⟨ms,k2⟩:=Dp.readsAll I ds _ its da vals
   have el:its.length=ds.length:=SeqAt.ReadsAll.length ds its ms k2
   have em:its.map (SeqAt.readOf s.heap)=ds:=SeqAt.readsAll_map ds its ms lay k2
   have szl:=sizeLine_eq
   have vlen:=vals.length
   obtain ⟨jd,_⟩:=List.getElem?_eq_some_iff.mp ez
   have jl:j < its.length:=by omega
   have ja:j < its.toArray.size:=by simpa using jl
   have look:∀ (m:Nat) (hm:m < its.toArray.size) (z':PyData),ds[m]?=some z'->SeqAt.readOf s.heap its.toArray[m]=z':=by
    intro m hm z' e
    have hm':m < its.length:=by simpa using hm
    rw [<- em,List.getElem?_map,List.getElem?_eq_getElem hm'] at e
    have e':=Option.some.inj (show some (SeqAt.readOf s.heap its[m])=some z' from e)
    simpa using e'
   refine call_meets PySem.F.slot_list_index ⟨_,hget,rfl⟩ PySem.F.entry_list_index (PySem.F.args_list_index_2 _ _)
    (SeqAt.list_indexAt a its.toArray cnt c2 c4 uy (fun u=>PyData.eqv (SeqAt.readOf s.heap u) d) j ja (by omega) ?_ ?_) ⟨hget,SeqAt.items_eqAt (vs:=its.toArray) (show ReadsAll s.heap its.toArray.toList ds ms from k2) k1 lay wd.1 room,?_⟩
   ·show PyData.eqv (SeqAt.readOf s.heap its.toArray[j]) d=true
    rw [look j ja z ez]; exact eqz
   ·intro m hm hmj
    have e:ds[m]?=some ds[m]:=List.getElem?_eq_getElem (show m < ds.length by omega)
    show PyData.eqv (SeqAt.readOf s.heap its.toArray[m]) d=false
    rw [look m hm _ e]; exact before m _ hmj e
   ·exact ⟨.int (j:Nat),H,I.tok _,⟨_,rfl⟩,q⟩
def zcy (K:PySem.W.Frag) {β:Type} (enc:β->PyData) (vs:List V) (H:Hp) (Q:VK):Prop:=∃ (a:Addr) (xs:List V) (bs:List β),vs=[V.ref a]/\(SqL K H a xs\/SqT K H a xs)/\Bears K H enc xs bs/\AllAlike (bs.map enc)/\Sortable (bs.map enc)/\bs.length<=10000000/\(∀ b ∈ bs,(enc b).depth<=190) /\
 ∀ (p:Addr) (ys:List V),H p=none->Bears K H enc ys (bs.mergeSort (dataLe false enc))->Q (.ref p) (upd H p (.lst ys))
theorem zao {β:Type} (enc:β->PyData) (hu:X.A.units+195 < cLine):CallR X (.builtin "sorted") (zcy X.K enc):=by
 intro pn s σ H vs us Q I r ⟨a,xs,bs,e,hs,hb,hal,hsr,hl,hd,q⟩
 subst e
 rw [Vals.ref1 r]
 rcases hs with hs | hs
 ·obtain ⟨its,rv,hli,_⟩:=I.list hs
  obtain ⟨e1,e2⟩:=z28 I hb rv
  refine z6w (kw:=[]) (vs:=its) (bs:=bs) (enc:=enc) (b:=false) (R:=fun u b=>∃ v,RelV v u/\Dp X.K H v (enc b)) plain_is_rev (args_sorted1 _) (fun _=>args_list_sort _) hli e1 e2 hal hsr (by rw [sizeLine_eq]; omega) (fun b m=>by have:=hd b m; omega) fun out h' h2 n k1 k2 hat ho h1=>?_
  obtain ⟨ys,g2,g3⟩:=z36 h1
  have I':Inv X pn σ H { s with heap:=h' }:=I.kept (t':=s.toks) k1
  have hlen:ys.length<=sizeLine:=by rw [g2.length,ho,sizeLine_eq]; omega
  exact ⟨.ref _,upd H h'.objs.size (.lst ys),I'.laid (t':=s.toks) (fun b o e=>k2 b o e) (Nat.le_refl _) ⟨hlen,out,n,g2,hat⟩,rfl,q _ ys (I'.hok.fresh (Nat.le_refl _)) g3⟩
 ·obtain ⟨its,rv,hli,_⟩:=I.tuple hs
  obtain ⟨e1,e2⟩:=z28 I hb rv
  refine z6t (kw:=[]) (vs:=its) (bs:=bs) (enc:=enc) (b:=false) (R:=fun u b=>∃ v,RelV v u/\Dp X.K H v (enc b)) plain_is_rev (args_sorted1 _) (fun _=>args_list_sort _) hli e1 e2 hal hsr (by rw [sizeLine_eq]; omega) (fun b m=>by have:=hd b m; omega) fun out h' h2 n k1 k2 hat ho h1=>?_
  obtain ⟨ys,g2,g3⟩:=z36 h1
  have I':Inv X pn σ H { s with heap:=h' }:=I.kept (t':=s.toks) k1
  have hlen:ys.length<=sizeLine:=by rw [g2.length,ho,sizeLine_eq]; omega
  exact ⟨.ref _,upd H h'.objs.size (.lst ys),I'.laid (t':=s.toks) (fun b o e=>k2 b o e) (Nat.le_refl _) ⟨hlen,out,n,g2,hat⟩,rfl,q _ ys (I'.hok.fresh (Nat.le_refl _)) g3⟩
end
theorem Gr.wd {C:Int} {g:Gr} (h:g.Ok C) (hd:g.deep<=63):Wd g.enc:=⟨by simp [Gr.enc,PyData.canLay0,Gr.lays h],by have:=g.enc_depth; omega⟩
theorem Gr.wd_t {C:Int} {t:Tr} (h0:z02 t.1) (h:t.2.Ok C) (hd:t.2.deep<=62):Wd (Gr.tEnc t):=⟨by simp [Gr.tEnc,Gr.enc,PyData.canLay0,PyData.canLayAll0,Gr.lays h,Gr.strOk_name h0],by have:=Gr.tEnc_depth t; omega⟩
theorem Gr.lay_ts {C:Int}:∀ {ps:List (Tr × Int)},(∀ p ∈ ps,z02 p.1.1/\p.1.2.Ok C)->PyData.canLayAll0 (ps.map fun p=>Gr.tEnc p.1)=true
 | [],_=>by simp [PyData.canLayAll0]
 | p::r,h=>by
  obtain ⟨a,b⟩:=h p (by simp)
  rw [List.map_cons,PyData.canLayAll0,lay_ts fun q hq=>h q (by simp [hq])]
  simp [Gr.tEnc,Gr.enc,PyData.canLay0,PyData.canLayAll0,Gr.lays b,Gr.strOk_name a]
theorem Gr.t_eqv (a b:Tr):PyData.eqv (Gr.tEnc a) (Gr.tEnc b)=decide (a=b):=Orderly.eq a b
def Bk.far (b:Bk) (k:Str) (n:Int):Int:=match b.get k with
 | some kd=>if kd.w=true then n else 0
 | none=>0
theorem Bk.far_le (b:Bk) (k:Str) {n:Int} (h:0<=n):0<=b.far k n/\b.far k n<=n:=by
 unfold Bk.far
 split
 ·split <;> omega
 ·omega
namespace Gr
variable {b:Bk} {n:Int} {C F E:Int} {g fr:Gr}
def grw (r:Ru) (n:Int):Gr:=tgt r.1 (tmsG r.2 n)
theorem grw_ok {r:Ru} (h:RuOk r) (hn:0<=n):(grw r n).Ok (1000000001*n+2000000002):=by
 have h2:=tms_ok h.2.1 (by omega) hn
 exact (tgt_ok2 h.1 h2 (by omega) (by omega)).mono (by omega)
theorem grw_parts {r:Ru} (h:RuOk r) (n:Int):(grw r n).parts<=4:=by
 have h1:=tgt_parts r.1 (tmsG r.2 n)
 have h2:=tms_parts r.2 n
 have h3:=h.2.2
 unfold grw
 omega
theorem grw_deep {r:Ru} (h:RuOk r) (n:Int):(grw r n).deep<=4:=by
 have h1:=z0e (grw r n)
 have h2:=grw_parts h n
 omega
def stk (b:Bk) (n:Int) (fr:Gr):Pl->Gr->Gr × Pl
 | [],g=>(g,[])
 | i::r,g=>match g.ps[i]? with
  | none=>(g,[])
  | some p=>if r=[] then (tgt (wo g p.1 1) fr,[]) else
    (tgt (wo g p.1 1) (one (p.1.1,(stk b n fr r p.1.2).1) (1+b.far p.1.1 n)),pos (tgt (wo g p.1 1) (one (p.1.1,(stk b n fr r p.1.2).1) (1+b.far p.1.1 n))) (p.1.1,(stk b n fr r p.1.2).1)::(stk b n fr r p.1.2).2)
def bareAt:Gr->Pl->Option Str
 | _,[]=>none
 | g,i::r=>match g.ps[i]? with
  | none=>none
  | some p=>if r=[] then (if p.1.2=.nil then some p.1.1 else none) else bareAt p.1.2 r
theorem stk_one {i:Nat} {p:Tr × Int} (e:g.ps[i]?=some p):stk b n fr [i] g=(tgt (wo g p.1 1) fr,[]):=by
 rw [stk,e]; rfl
def chg (b:Bk) (n:Int) (fr:Gr) (r:Pl) (p:Tr × Int):Tr:=(p.1.1,(stk b n fr r p.1.2).1)
def chR (b:Bk) (n:Int) (fr:Gr) (r:Pl) (g:Gr) (p:Tr × Int):Gr:=tgt (wo g p.1 1) (one (chg b n fr r p) (1+b.far p.1.1 n))
theorem stk_more {i:Nat} {r:Pl} {p:Tr × Int} (e:g.ps[i]?=some p) (hr:r ≠ []):stk b n fr (i::r) g=(chR b n fr r g p,pos (chR b n fr r g p) (chg b n fr r p)::(stk b n fr r p.1.2).2):=by
 rw [stk,e]
 simp only [if_neg hr]
 rfl
theorem bare_one {i:Nat} {k:Str} (h:bareAt g [i]=some k):∃ p,g.ps[i]?=some p/\p.1=(k,.nil):=by
 rw [bareAt] at h
 cases e:g.ps[i]? with
 | none=>rw [e] at h; cases h
 | some p =>
  rw [e] at h
  simp only [if_true] at h
  by_cases z:p.1.2=.nil
  ·rw [if_pos z] at h
   exact ⟨p,rfl,Prod.ext (Option.some.inj h) z⟩
  ·rw [if_neg z] at h; cases h
theorem bare_more {i:Nat} {r:Pl} {k:Str} (hr:r ≠ []) (h:bareAt g (i::r)=some k):∃ p,g.ps[i]?=some p/\bareAt p.1.2 r=some k:=by
 rw [bareAt] at h
 cases e:g.ps[i]? with
 | none=>rw [e] at h; cases h
 | some p =>
  rw [e] at h
  simp only [if_neg hr] at h
  exact ⟨p,rfl,h⟩
theorem bare_ne {pl:Pl} {k:Str} (h:bareAt g pl=some k):pl ≠ []:=fun z=>by rw [z] at h; cases h
theorem wo_okM {t:Tr} {m:Int} (h:g.Ok C) (hm:0<=m) (hC:C<=E):∀ p ∈ (wo g t m).ps,z02 p.1.1/\p.1.2.Ok E/\1<=p.2:=ok_three (wo_ok h hm) hC
theorem S_wo_le (h:g.Ok C) {t:Tr} {m:Int} (hm:0<=m) (x:Tr):S (wo g t m) x<=S g x:=by
 rw [S_wo h hm]
 split
 ·next e=>
  subst e
  have:=S_nonneg h x
  split <;> omega
 ·exact Int.le_refl _
theorem ok_mem (h:g.Ok C) {p:Tr × Int} (hp:p ∈ g.ps):z02 p.1.1/\p.1.2.Ok C/\1<=p.2/\p.2 < C:=(ok_iff.mp h).1 p hp
theorem C_pos {p:Tr × Int} (h:g.Ok C) (hp:p ∈ g.ps):2<=C:=by have:=(ok_mem h hp).2.2; omega
theorem stk_ok (hn:0<=n) (hF:1<=F) (hfr:fr.Ok F):∀ {pl:Pl} {g:Gr} {k:Str},g.Ok C->bareAt g pl=some k->(stk b n fr pl g).1.Ok (C+F+n+2)
 | [],_,_,_,h=>nomatch h
 | i::r,g,k,ho,h=>by
  by_cases hr:r=[]
  ·subst hr
   obtain ⟨p,e,_⟩:=bare_one h
   rw [stk_one e]
   have hC:=C_pos ho (List.mem_of_getElem? e)
   exact (tgt_ok2 (wo_ok ho (by omega)) hfr (by omega) hF).mono (by omega)
  ·obtain ⟨p,e,h2⟩:=bare_more hr h
   rw [stk_more e hr]
   have pm:=List.mem_of_getElem? e
   have hC:=C_pos ho pm
   obtain ⟨a,o,_,_⟩:=ok_mem ho pm
   have ih:=stk_ok hn hF hfr o h2
   obtain ⟨f1,f2⟩:=Bk.far_le b p.1.1 hn
   refine tgt_okM (wo_okM ho (by omega) (by omega)) (fun q hq=>?_) fun t=>?_
   ·rw [one_ps] at hq
    rw [List.mem_singleton.mp hq]
    exact ⟨a,ih,by show 1<=1+b.far p.1.1 n; omega⟩
   ·have h1:=S_wo_le ho (t:=p.1) (m:=1) (by omega) t
    have h3:=S_lt ho (by omega) t
    rw [S_one]
    split <;> omega
theorem stk_parts:∀ {pl:Pl} {g:Gr} {k:Str},bareAt g pl=some k->(stk b n fr pl g).1.parts<=pl.length*(g.parts+1)+fr.parts
 | [],_,_,h=>nomatch h
 | i::r,g,k,h=>by
  by_cases hr:r=[]
  ·subst hr
   obtain ⟨p,e,_⟩:=bare_one h
   rw [stk_one e]
   have h1:=tgt_parts (wo g p.1 1) fr
   have h2:=wo_parts g p.1 1
   simp only [List.length_cons,List.length_nil]
   omega
  ·obtain ⟨p,e,h2⟩:=bare_more hr h
   rw [stk_more e hr]
   have pm:=List.mem_of_getElem? e
   have ih:=stk_parts h2
   have h3:=tgt_parts (wo g p.1 1) (one (chg b n fr r p) (1+b.far p.1.1 n))
   have h4:=wo_parts g p.1 1
   have h5:(one (chg b n fr r p) (1+b.far p.1.1 n)).parts=1+(stk b n fr r p.1.2).1.parts:=rfl
   have h6:=mem_parts g p pm
   have h7:r.length*(p.1.2.parts+1)<=r.length*(g.parts+1):=Nat.mul_le_mul_left _ (by omega)
   show (chR b n fr r g p).parts<=_
   rw [List.length_cons,Nat.succ_mul]
   unfold chR
   omega
theorem stk_deep:∀ {pl:Pl} {g:Gr} {k:Str},bareAt g pl=some k->(stk b n fr pl g).1.deep<=max g.deep (pl.length-1+fr.deep)
 | [],_,_,h=>nomatch h
 | i::r,g,k,h=>by
  by_cases hr:r=[]
  ·subst hr
   obtain ⟨p,e,_⟩:=bare_one h
   rw [stk_one e]
   have h2:=wo_deep g p.1 1
   exact tgt_deep (by omega) (by simp only [List.length_cons,List.length_nil]; omega)
  ·obtain ⟨p,e,h2⟩:=bare_more hr h
   rw [stk_more e hr]
   have pm:=List.mem_of_getElem? e
   have ih:=stk_deep h2
   have h4:=wo_deep g p.1 1
   have h5:(one (chg b n fr r p) (1+b.far p.1.1 n)).deep=max (1+(stk b n fr r p.1.2).1.deep) 0:=rfl
   have h6:=mem_deep g p pm
   have h7:0 < r.length:=List.length_pos_iff.mpr hr
   refine tgt_deep (by omega) ?_
   rw [h5,List.length_cons]
   omega
theorem bare_len:∀ {pl:Pl} {g:Gr} {k:Str},bareAt g pl=some k->pl.length<=g.deep
 | [],_,_,h=>nomatch h
 | i::r,g,k,h=>by
  by_cases hr:r=[]
  ·subst hr
   obtain ⟨p,e,_⟩:=bare_one h
   have:=mem_deep g p (List.mem_of_getElem? e)
   simp only [List.length_cons,List.length_nil]
   omega
  ·obtain ⟨p,e,h2⟩:=bare_more hr h
   have:=mem_deep g p (List.mem_of_getElem? e)
   have:=bare_len h2
   simp only [List.length_cons]
   omega
theorem stk_named {ns:List Str} (hfr:Named ns fr):∀ {pl:Pl} {g:Gr} {k:Str},bareAt g pl=some k->Named ns g->Named ns (stk b n fr pl g).1
 | [],_,_,h,_=>nomatch h
 | i::r,g,k,h,hg=>by
  by_cases hr:r=[]
  ·subst hr
   obtain ⟨p,e,_⟩:=bare_one h
   rw [stk_one e]
   exact named_tgt (named_wo hg _ _) hfr
  ·obtain ⟨p,e,h2⟩:=bare_more hr h
   rw [stk_more e hr]
   obtain ⟨h3,h4⟩:=named_iff.mp hg p (List.mem_of_getElem? e)
   exact named_tgt (named_wo hg _ _) (named_one (t:=chg b n fr r p) h3 (stk_named hfr h2 h4) _)
theorem stk_plen:∀ {pl:Pl} {g:Gr} {k:Str},bareAt g pl=some k->(stk b n fr pl g).2.length=pl.length-1
 | [],_,_,h=>nomatch h
 | i::r,g,k,h=>by
  by_cases hr:r=[]
  ·subst hr
   obtain ⟨p,e,_⟩:=bare_one h
   rw [stk_one e]; rfl
  ·obtain ⟨p,e,h2⟩:=bare_more hr h
   rw [stk_more e hr]
   have ih:=stk_plen h2
   have h7:0 < r.length:=List.length_pos_iff.mpr hr
   simp only [List.length_cons]
   omega
theorem bare_lk:∀ {pl:Pl} {g:Gr} {k:Str} (a:Str),bareAt g pl=some k->lk (a,g) (plO pl)=some (k,.nil)
 | [],_,_,_,h=>nomatch h
 | i::r,g,k,a,h=>by
  have hs:∀ p,g.ps[i]?=some p->stp g (some (i:Int))=some p.1:=fun p e=>by
   show (if 0<=(i:Int) then (g.ps[(i:Int).toNat]?).map (·.1) else none)=_
   rw [if_pos (by omega),Int.toNat_natCast,e]; rfl
  by_cases hr:r=[]
  ·subst hr
   obtain ⟨p,e,e2⟩:=bare_one h
   show (stp g (some (i:Int))).bind (fun u=>lk u (plO []))=_
   rw [hs p e,e2]; rfl
  ·obtain ⟨p,e,h2⟩:=bare_more hr h
   show (stp g (some (i:Int))).bind (fun u=>lk u (plO r))=_
   rw [hs p e]
   exact bare_lk p.1.1 h2
theorem bks_at:∀ {ps:List (Tr × Int)} {j:Nat} {x:Pl × Str},x ∈ bks ps j->∃ i p,ps[i]?=some p/\x ∈ bkP p (j+i)
 | [],_,_,h=>nomatch h
 | p::r,j,x,h=>by
  rcases List.mem_append.mp h with h | h
  ·exact ⟨0,p,rfl,h⟩
  ·obtain ⟨i,q,e,h2⟩:=bks_at h
   exact ⟨i+1,q,e,by rw [show j+(i+1)=j+1+i by omega]; exact h2⟩
theorem bk_bare:∀ (m:Nat) {g:Gr} {x:Pl × Str},x.1.length<=m->x ∈ g.bk 0->bareAt g x.1=some x.2
 | 0,g,x,hl,h=>by
  rw [bk_ps] at h
  obtain ⟨i,p,e,h2⟩:=bks_at h
  unfold bkP at h2
  split at h2
  ·rw [List.mem_singleton.mp h2] at hl; simp at hl
  ·obtain ⟨y,_,rfl⟩:=List.mem_map.mp h2; simp at hl
 | m+1,g,x,hl,h=>by
  rw [bk_ps] at h
  obtain ⟨i,p,e,h2⟩:=bks_at h
  rw [Nat.zero_add] at h2
  unfold bkP at h2
  split at h2
  ·next z =>
   rw [List.mem_singleton.mp h2]
   show bareAt g [i]=_
   rw [bareAt,e]
   simp [z]
  ·obtain ⟨y,hy,rfl⟩:=List.mem_map.mp h2
   have h3:y.1 ≠ []:=by
    rw [bk_ps] at hy
    obtain ⟨i',p',e',h'⟩:=bks_at hy
    unfold bkP at h'
    split at h'
    ·rw [List.mem_singleton.mp h']; simp
    ·obtain ⟨y',_,rfl⟩:=List.mem_map.mp h'; simp
   have ih:=bk_bare m (x:=y) (by simp only [List.length_cons] at hl; omega) hy
   show bareAt g (i::y.1)=_
   rw [bareAt,e]
   simp only [if_neg h3]
   exact ih
end Gr
def z59 (K:PySem.W.Frag) {γ:Type} [DecidableEq γ] (enc:γ->PyData):Sp:=fun vs H Q _=>∃ (a:Addr) (xs:List V) (bs:List (γ × Int)),vs=[.ref a]/\SqL K H a xs/\Bears K H (z0j enc) xs bs/\bs.length<=5000/\(∀ b ∈ bs,Wd (enc b.1)) /\
 ∀ (c:Addr) (ys:List V) (H':Hp),SB [] H H'->SqT K H' c ys->Bears K H' (z0j enc) ys (jn bs)->Q (.ref c) H'
def z21 (K:PySem.W.Frag):Sp:=fun vs H Q _=>∃ (v u:V) (g k:Gr),vs=[v,u]/\GA K H v g/\GA K H u k/\(∃ C,g.Ok C/\k.Ok C)/\g.deep<=63/\k.deep<=63/\g.ps.length<=2100/\k.ps.length<=2100/\∀ (x:V) (H':Hp),SB [] H H'->GA K H' x (Gr.tgt g k)->Q x H'
def z5a (K:PySem.W.Frag):Sp:=fun vs H Q _=>∃ (v u:V) (g:Gr) (t:Tr) (m:Int),vs=[v,u,.int m]/\GA K H v g/\Dp K H u (Gr.tEnc t)/\(∃ C,g.Ok C/\t.2.Ok C)/\z02 t.1/\g.deep<=63/\t.2.deep<=62/\g.ps.length<=5000/\∀ (x:V) (H':Hp),SB [] H H'->GA K H' x (Gr.wo g t m)->Q x H'
def z88 (K:PySem.W.Frag):Sp:=fun vs H Q _=>∃ (v:V) (g:Gr) (m:Int),vs=[v,.int m]/\GA K H v g/\g.ps.length<=5000/\(∀ p ∈ g.ps,0<=p.2/\p.2 < 2 ^ 2000)/\0<=m/\m < 2 ^ 2000/\∀ (x:V) (H':Hp),SB [] H H'->GA K H' x (Gr.tmsG g m)->Q x H'
def z8g (K:PySem.W.Frag):Sp:=fun vs H Q _=>∃ (v u:V) (g:Gr) (t:Tr) (m:Int),vs=[v,u]/\GA K H v g/\Dp K H u (Gr.tEnc t)/\(∃ C,g.Ok C)/\g.deep<=63/\g.ps.length<=5000/\(t,m) ∈ g.ps/\∀ H',SB [] H H'->Q (.int (Gr.pos g t:Nat)) H'
def z8n (K:PySem.W.Frag):Sp:=fun vs H Q _=>∃ (v:V) (r:Ru) (n:Int),vs=[v,.int n]/\Dp K H v (Ru.enc r)/\RuOk r/\0<=n/\n < 2 ^ 900/\∀ (x:V) (H':Hp),SB [] H H'->GA K H' x (Gr.grw r n)->Q x H'
def zax (K:PySem.W.Frag) (C:Addr):Sp:=fun vs H Q _=>∃ (v:V) (b:Bk) (k:Str) (n:Int),vs=[v,.str k,.int n]/\BkA K C H v b/\b.length<=1000/\k ∈ b.names/\∀ H',SB [] H H'->Q (.int (b.far k n)) H'
def z70 (K:PySem.W.Frag) (C:Addr):Sp:=fun vs H Q E=>∃ (v:V) (o:Option Int),vs=[v]/\Wh K H v o/\((∃ n,o=some n/\0<=n)->∀ H',SB [] H H'->Q .non H')/\((∀ n,o=some n->n < 0)->∀ H',SB [] H H'->E (.ref C) none H')
abbrev noR:Ru:=(.nil,.nil)
def z75 (K:PySem.W.Frag) (C R:Addr):Sp:=fun vs H Q E=>∃ (v x:V) (b:Bk) (k:Str) (kd:Kd) (o:Option Int),vs=[v,.str k,x]/\BkA K C H v b/\b.Ok/\b.get k=some kd/\Wh K H x o /\
 (∀ (i:Nat) (r:Ru),o=some (i:Int)->(noR::kd.rs)[i]?=some r->∀ (y:V) (H':Hp),SB [] H H'->Dp K H' y (Ru.enc r)->Q y H')/\((∀ i:Nat,o=some (i:Int)->(noR::kd.rs)[i]?=none)->∀ H',SB [] H H'->E (.ref R) none H')
def z40 (K:PySem.W.Frag) (C:Addr):Sp:=fun vs H Q E=>∃ (v:V) (g:Gr),vs=[v]/\GA K H v g/\g.deep<=68/\g.parts<=200000/\((g.parts<=2000/\g.deep<=60)->∀ H',SB [] H H'->Q .non H')/\(¬ (g.parts<=2000/\g.deep<=60)->∀ H',SB [] H H'->E (.ref C) none H')
def z4j (K:PySem.W.Frag):Sp:=fun vs H Q _=>∃ (v:V) (g:Gr) (ns:List Str),vs=[v]/\GA K H v g/\g.deep<=68/\g.parts<=3000/\Gr.Named ns g/\ns.length<=60/\∀ (l:Addr) (ss:List Str) (H':Hp),SB [] H H'->H l=none->H' l=some (.lst (ss.map V.str))->SrtOf ss (g.within.map (·.1.1))->ss.length<=60->Q (.ref l) H'
def z1k (K:PySem.W.Frag) (C:Addr):Sp:=fun vs H Q E=>∃ (v w:V) (b:Bk) (g:Gr),vs=[v,w]/\BkA K C H v b/\GA K H w g/\b.length<=60/\g.deep<=68/\g.parts<=3000/\Gr.Named b.names g/\∀ H',SB [] H H'->Q .non H'
def z1v (K:PySem.W.Frag) (C:Addr) (m:Nat):Sp:=fun vs H Q _=>∃ (v w fv:V) (a:Addr) (n D F:Int) (b:Bk) (g fr:Gr) (pl:Pl) (k:Str),vs=[v,w,.ref a,fv,.int n]/\(BkA K C H v b/\b.Ok)/\(GA K H w g/\g.Ok D/\g.deep<=60/\g.parts<=2000/\Gr.Named b.names g)/\(GA K H fv fr/\1<=F/\fr.Ok F/\fr.deep<=4/\fr.parts<=4)/\SqT K H a (pl.map fun n:Nat=>V.int (n:Int))/\Gr.bareAt g pl=some k/\pl.length < m/\0<=n /\
 ∀ (t:Addr) (u p:V) (H':Hp),SB [] H H'->SqT K H' t [u,p]->GA K H' u (Gr.stk b n fr pl g).1->Dp K H' p (z0d (Gr.stk b n fr pl g).2)->Q (.ref t) H'
def z0z (g:Gr):Prop:=g.parts<=2000/\g.deep<=60
def z1c (K:PySem.W.Frag) (C NP NR NN TG:Addr):Sp:=fun vs H Q E=>∃ (v w x y:V) (a:Addr) (b:Bk) (g:Gr) (D:Int) (xs:List V) (os:List (Option Int)) (ro so:Option Int),vs=[v,w,.ref a,x,y]/\(BkA K C H v b/\b.Ok)/\(GA K H w g/\g.Ok D/\g.deep<=60/\g.parts<=2000/\Gr.Named b.names g)/\(SqT K H a xs/\Whs K H xs os)/\Wh K H x ro/\Wh K H y so/\(∀ n,so=some n->n < 2 ^ 900) /\
 ((∀ pl k,os=plO pl->Gr.bareAt g pl ≠ some k)->∀ H',SB [] H H'->E (.ref NP) none H') /\
 ∀ (pl:Pl) (k:Str) (kd:Kd),os=plO pl->Gr.bareAt g pl=some k->b.get k=some kd ->
  ((∀ i:Nat,ro=some (i:Int)->(noR::kd.rs)[i]?=none)->∀ H',SB [] H H'->E (.ref NR) none H') /\
  ∀ (i:Nat) (r:Ru),ro=some (i:Int)->(noR::kd.rs)[i]?=some r ->
   ((∀ n,so=some n->n < 0)->∀ H',SB [] H H'->E (.ref NN) none H') /\
   ∀ n:Int,so=some n->0<=n ->
    (¬ z0z (Gr.stk b n (Gr.grw r n) pl g).1->∀ H',SB [] H H'->E (.ref TG) none H') /\
    (z0z (Gr.stk b n (Gr.grw r n) pl g).1->∀ (t:Addr) (u p:V) (H':Hp),SB [] H H'->H t=none->SqT K H' t [u,p]->GA K H' u (Gr.stk b n (Gr.grw r n) pl g).1->Dp K H' p (z0d (Gr.stk b n (Gr.grw r n) pl g).2)->Q (.ref t) H')
namespace Gr
variable {b:Bk} {n:Int} {C F:Int} {g fr:Gr}
theorem chR_mem (hn:0<=n) (hF:1<=F) (hfr:fr.Ok F) {i:Nat} {r:Pl} {p:Tr × Int} {k:Str} (ho:g.Ok C) (hr:r ≠ []) (e:g.ps[i]?=some p) (h:bareAt g (i::r)=some k):(∃ D,(chR b n fr r g p).Ok D)/\∃ m,(chg b n fr r p,m) ∈ (chR b n fr r g p).ps:=by
 have h1:=stk_ok (b:=b) hn hF hfr ho h
 rw [stk_more e hr] at h1
 refine ⟨⟨_,h1⟩,?_⟩
 have h2:1<=S (chR b n fr r g p) (chg b n fr r p):=by
  show 1<=S (tgt _ _) _
  rw [S_tgt,S_one,if_pos rfl]
  have:=S_nonneg (wo_ok ho (t:=p.1) (m:=1) (by omega)) (chg b n fr r p)
  have:=(Bk.far_le b p.1.1 hn).1
  omega
 obtain ⟨m,hm,_⟩:=S_pos h1 h2
 exact ⟨m,hm⟩
end Gr
theorem Gr.lk_bare:∀ {os:List (Option Int)} {g:Gr} {a:Str} {t:Tr},os ≠ []->lk (a,g) os=some t->∃ pl,os=plO pl/\(t.2=.nil->Gr.bareAt g pl=some t.1)
 | [],_,_,_,h,_=>absurd rfl h
 | o::r,g,a,t,_,h=>by
  rw [lk] at h
  obtain ⟨u,hu,h2⟩:=Option.bind_eq_some_iff.mp h
  cases o with
  | none=>cases hu
  | some n =>
   change (if 0<=n then (g.ps[n.toNat]?).map (·.1) else none)=some u at hu
   by_cases h0:0<=n
   ·rw [if_pos h0] at hu
    obtain ⟨p,ep,rfl⟩:=Option.map_eq_some_iff.mp hu
    have en:some n=some ((n.toNat:Nat):Int):=by rw [Int.toNat_of_nonneg h0]
    by_cases hr:r=[]
    ·subst hr
     have e:p.1=t:=Option.some.inj h2
     refine ⟨[n.toNat],by rw [en]; rfl,fun z=>?_⟩
     rw [Gr.bareAt,ep]
     simp only [if_true]
     rw [e,if_pos z]
    ·obtain ⟨pl,e,h3⟩:=lk_bare (a:=p.1.1) (g:=p.1.2) hr h2
     refine ⟨n.toNat::pl,by rw [e,en]; rfl,fun z=>?_⟩
     have hp:pl ≠ []:=fun z=>hr (by rw [e,z]; rfl)
     rw [Gr.bareAt,ep]
     simp only [if_neg hp]
     exact h3 z
   ·rw [if_neg h0] at hu; cases hu
theorem Gr.bare_named {ns:List Str}:∀ {pl:Pl} {g:Gr} {k:Str},Gr.Named ns g->Gr.bareAt g pl=some k->k ∈ ns
 | [],_,_,_,h=>nomatch h
 | i::r,g,k,hn,h=>by
  by_cases hr:r=[]
  ·subst hr
   obtain ⟨p,e,e2⟩:=Gr.bare_one h
   have:=(Gr.named_iff.mp hn p (List.mem_of_getElem? e)).1
   rwa [e2] at this
  ·obtain ⟨p,e,h2⟩:=Gr.bare_more hr h
   exact bare_named (Gr.named_iff.mp hn p (List.mem_of_getElem? e)).2 h2
theorem Whs.ints {K:PySem.W.Frag} {H:Hp}:∀ {pl:Pl} {xs:List V},Whs K H xs (plO pl)->xs=pl.map fun n:Nat=>V.int (n:Int)
 | [],_,h=>by cases h; rfl
 | i::r,_,h=>by
  cases h with
  | cons h1 h2 =>
   rw [Whs.ints h2]
   rcases h1 with ⟨n,rfl,e⟩ | ⟨e,_⟩
   ·rw [<- Option.some.inj e]; rfl
   ·cases e
theorem Wh.int {K:PySem.W.Frag} {H:Hp} {v:V} {n:Int} (h:Wh K H v (some n)):v=.int n:=by
 rcases h with ⟨i,rfl,e⟩ | ⟨e,_⟩
 ·rw [Option.some.inj e]
 ·cases e
theorem za6 {kd:Kd} (h:∀ r ∈ kd.rs,RuOk r) {i:Nat} {r:Ru} (e:(noR::kd.rs)[i]?=some r):RuOk r:=by
 rcases List.mem_cons.mp (List.mem_of_getElem? e) with rfl | hm
 ·exact ⟨trivial,trivial,Nat.zero_le _⟩
 ·exact h r hm
theorem zb3 {ns:List Str} {kd:Kd} (h:∀ r ∈ kd.rs,∀ p ∈ Ru.within r,p.1.1 ∈ ns) {i:Nat} {r:Ru} (e:(noR::kd.rs)[i]?=some r):∀ p ∈ Ru.within r,p.1.1 ∈ ns:=by
 rcases List.mem_cons.mp (List.mem_of_getElem? e) with rfl | hm
 ·exact fun p hp=>nomatch hp
 ·exact h r hm
theorem z87:∀ {p q:Pl},plO p=plO q->p=q
 | [],[],_=>rfl
 | [],_::_,h=>nomatch h
 | _::_,[],h=>nomatch h
 | i::r,j::s,h=>by
  obtain ⟨h1,h2⟩:=List.cons.inj (show some (i:Int)::plO r=some (j:Int)::plO s from h)
  have:=Option.some.inj h1
  rw [z87 h2,show i=j by omega]
def z72 (K:PySem.W.Frag) (C:Addr):Sp:=fun vs H Q _=>∃ (l:Addr) (xs:List V) (b:Bk),vs=[.ref l]/\H l=some (.lst xs)/\KdAll K H [] xs b/\b.Ok/\∀ (y:Addr) (H':Hp),SB [] H H'->H y=none->BkA K C H' (.ref y) b->Q (.ref y) H'
def gpE (x:Gr × Pl):PyData:=.tuple [x.1.enc,z0d x.2]
theorem zl0 {K:PySem.W.Frag} {H:Hp} {t:Addr} {u p:V} {g:Gr} {pl:Pl} (h:SqT K H t [u,p]) (hu:GA K H u g) (hp:Dp K H p (z0d pl)):Dp K H (.ref t) (gpE (g,pl)):=.tup h (.cons hu (.cons hp .nil))
theorem Gr.wd_nil:Wd (.tuple []):=⟨by decide +kernel,by decide +kernel⟩
theorem zc0 {K:PySem.W.Frag} {C NP NR NN TG:Addr} {H:Hp} {v w:V} {a:Addr} {b:Bk} {g:Gr} {D n:Int} {pl:Pl} {k:Str} {kd:Kd} {i:Nat} {r:Ru} {Q:VK} {E:XK} {vs:List V} (evs:vs=[v,w,.ref a,.int (i:Int),.int n]) (hv:BkA K C H v b) (ok:b.Ok) (hw:GA K H w g) (go:g.Ok D) (gd:g.deep<=60) (gp:g.parts<=2000) (gn:Gr.Named b.names g)
  (ha:SqT K H a (pl.map fun n:Nat=>V.int (n:Int))) (hb:Gr.bareAt g pl=some k) (eg:b.get k=some kd) (er:(noR::kd.rs)[i]?=some r) (n0:0<=n) (nb:n < 2 ^ 900)
  (q:z0z (Gr.stk b n (Gr.grw r n) pl g).1->∀ (t:Addr) (H':Hp),SB [] H H'->H t=none->Dp K H' (.ref t) (gpE (Gr.stk b n (Gr.grw r n) pl g))->Q (.ref t) H')
  (qE:¬ z0z (Gr.stk b n (Gr.grw r n) pl g).1->∀ H',SB [] H H'->E (.ref TG) none H'):z1c K C NP NR NN TG vs H Q E:=by
 subst evs
 refine ⟨v,w,.int i,.int n,a,b,g,D,_,plO pl,some (i:Int),some n,rfl,⟨hv,ok⟩,⟨hw,go,gd,gp,gn⟩,⟨ha,Whs.pl K H pl⟩,.inl ⟨_,rfl,rfl⟩,.inl ⟨n,rfl,rfl⟩,(fun m e=>by cases e; exact nb),fun h=>absurd hb (h pl k rfl),fun pl' k' kd' e1 hb' eg'=>?_⟩
 have e1:=z87 e1
 subst e1
 have e2:=hb.symm.trans hb'
 cases e2
 have e3:=eg.symm.trans eg'
 cases e3
 refine ⟨fun h=>absurd (h i rfl) (by rw [er]; simp),fun i' r' e4 er'=>?_⟩
 have e4:i'=i:=by have:=Option.some.inj e4; omega
 subst e4
 have e5:=er.symm.trans er'
 cases e5
 refine ⟨fun h=>absurd (h n rfl) (by omega),fun m em m0=>?_⟩
 have em:=Option.some.inj em
 subst em
 exact ⟨qE,fun hin t u p H' s nt ht hu hp=>q hin t H' s nt (zl0 ht hu hp)⟩
def z2b (K:PySem.W.Frag) (n:Nat):Sp:=fun vs H Q _=>∃ (v u:V) (g:Gr) (pl:Pl),vs=[v,u]/\GA K H v g/\Dp K H u (z0d pl)/\g.deep < n/\g.deep+pl.length<=63/\g.parts<=5000/\(∃ C,g.Ok C)/\∀ (l:Addr) (us:List V) (H':Hp),SB [] H H'->H l=none->H' l=some (.lst us)->Bears K H' bkE us ((g.bk 0).map fun x=>(pl++x.1,x.2))->Q (.ref l) H'
theorem zde {K:PySem.W.Frag} {H:Hp} {v:V} {x:Gr × Pl} (h:Dp K H v (gpE x)):∃ t u a,v=.ref t/\SqT K H t [u,.ref a]/\GA K H u x.1/\SqT K H a (x.2.map fun n:Nat=>V.int (n:Int)):=by
 cases h with
 | @tup t us _ hs hda =>
 cases hda with
 | cons g1 hda =>
 cases hda with
 | cons g2 hda =>
 cases hda
 obtain ⟨pa,rfl,hpa⟩:=z29 g2
 exact ⟨t,_,pa,rfl,hs,g1,hpa⟩
theorem Gr.stk_bound {b:Bk} {n D:Int} {g fr:Gr} {pl:Pl} {k:Str} (hb:Gr.bareAt g pl=some k) (gd:g.deep<=12) (gp:g.parts<=60) (fd:fr.deep<=4) (fp:fr.parts<=4):(Gr.stk b n fr pl g).1.parts<=736/\(Gr.stk b n fr pl g).1.deep<=16:=by
 have p1:=Gr.stk_parts (b:=b) (n:=n) (fr:=fr) hb
 have d1:=Gr.stk_deep (b:=b) (n:=n) (fr:=fr) hb
 have l1:=Gr.bare_len hb
 have p2:pl.length*(g.parts+1)<=12*61:=Nat.mul_le_mul (by omega) (by omega)
 exact ⟨by omega,by omega⟩
theorem nilI {σ:L2.St} {H:Hp} {Q:List V->Hp->Prop} (h:Q [] H):tNil σ H Q:=h
def z1t (K:PySem.W.Frag) (n:Nat):Sp:=fun vs H Q _=>∃ (v:V) (g:Gr),vs=[v]/\GA K H v g/\g.deep < n/\g.ps.length<=200000/\(∀ p ∈ g.within,p.1.2.ps.length<=200000)/\∀ H',SB [] H H'->Q (.int (g.deep:Nat)) H'
def zkm (K:PySem.W.Frag):List V->List V->Hp->VK->Prop:=fun vs zs H Q=>∃ (a:Addr) (ns:List Int) (d:Int),vs=[V.ref a]/\zs=[.int d]/\SqL K H a (ns.map V.int)/\(ns=[]->Q (.int d) H)/\∀ m,m ∈ ns->(∀ y,y ∈ ns->y<=m)->Q (.int m) H
theorem z83:∀ (ys:List Int) (y:Int),(maxOf y ys ∈ y::ys)/\∀ z ∈ y::ys,z<=maxOf y ys
 | [],y=>⟨List.mem_singleton.mpr rfl,fun z hz=>by rw [List.mem_singleton.mp hz]; exact Int.le_refl _⟩
 | a::ys,y=>by
  have e:maxOf y (a::ys)=maxOf (if decide (y < a)=true then a else y) ys:=rfl
  obtain ⟨h1,h2⟩:=z83 ys (if decide (y < a)=true then a else y)
  rw [e]
  by_cases hlt:y < a
  ·rw [if_pos (decide_eq_true hlt)] at h1 h2 ⊢
   refine ⟨mcm _ h1,fun z hz=>?_⟩
   rcases List.mem_cons.mp hz with rfl | hz
   ·have:=h2 a (mcs ..); omega
   ·exact h2 z hz
  ·rw [if_neg (fun z=>hlt (of_decide_eq_true z))] at h1 h2 ⊢
   refine ⟨?_,fun z hz=>?_⟩
   ·rcases List.mem_cons.mp h1 with e | h
    ·rw [e]; exact mcs ..
    ·exact mcm _ (mcm _ h)
   ·rcases List.mem_cons.mp hz with rfl | hz
    ·exact h2 z (mcs ..)
    rcases List.mem_cons.mp hz with rfl | hz
    ·have:=h2 y (mcs ..); omega
    ·exact h2 z (mcm _ hz)
theorem zgi {X:Cx} (hc:X.calm=true) (hu:X.A.units+10 < cLine):CallRK X (.builtin "max") [Str.ofString "default"] (zkm X.K):=by
 intro pn s σ H vs zs us ws Q I r rz ⟨a,ns,d,e1,e2,hs,q0,q⟩
 subst e1 e2
 obtain ⟨its,rv,hl,_⟩:=I.list hs
 rw [Vals.ref1 r]
 cases rz with
 | cons rd rt =>
  cases rt
  obtain ⟨t,rfl⟩:=rd
  refine max_list_datum_default (α:=Int) (I.ok.hd hc) hl.isList (HoldAll.of_ints rv.ints) (by show X.A.units+1+0 < cLine; omega) (fun e h' tk hk=>⟨.int d,H,I.kept hk,⟨_,rfl⟩,q0 e⟩) fun y ys i v h' tk e hi hv hk=>?_
  obtain ⟨t',rfl⟩:=int_of_holds hv
  obtain ⟨m1,m2⟩:=z83 ys y
  exact ⟨.int _,H,I.kept hk,⟨_,rfl⟩,q _ (by rw [e]; exact m1) (by rw [e]; exact m2)⟩
namespace Gr
theorem within_small {g:Gr}:∀ p ∈ g.within,p.1.2.ps.length<=g.parts:=by
 intro p hp
 have h1:∀ (g:Gr) (p:Tr × Int),p ∈ g.within->p.1.2.parts < g.parts:=by
  intro g
  induction g with
  | nil=>intro p hp; exact nomatch hp
  | cons k g m r ih1 ih2 =>
   intro p hp
   have e:(Gr.cons k g m r).parts=1+g.parts+r.parts:=rfl
   rcases List.mem_cons.mp hp with rfl | hp
   ·show g.parts < _; omega
   ·rcases List.mem_append.mp hp with hp | hp
    ·have:=ih1 p hp; omega
    ·have:=ih2 p hp; omega
 have:=h1 g p hp
 have:=p.1.2.len_parts
 omega
end Gr
section
variable {γ:Type} [DecidableEq γ]
def wsum (f:γ->Int) (l:List (γ × Int)):Int:=match l with
 | []=>0
 | p::r=>f p.1*p.2+wsum f r
theorem z32 (f:γ->Int):∀ as bs:List (γ × Int),wsum f (as++bs)=wsum f as+wsum f bs
 | [],bs=>by simp [wsum]
 | p::r,bs=>by show _+wsum f (r++bs)=_; rw [z32 f r bs,wsum]; omega
theorem z2j (f:γ->Int) (t:γ):∀ l:List (γ × Int),wsum f l=f t*sumE l t+wsum f (l.filter fun p=>decide (p.1 ≠ t))
 | []=>by simp [wsum,sumE]
 | p::r=>by
  have ih:=z2j f t r
  by_cases e:p.1=t
  ·rw [List.filter_cons_of_neg (by simpa using e)]
   show f p.1*p.2+wsum f r=f t*((if p.1=t then p.2 else 0)+sumE r t)+_
   rw [if_pos e,Int.mul_add,e,ih]; omega
  ·rw [List.filter_cons_of_pos (by simpa using e)]
   show f p.1*p.2+wsum f r=f t*((if p.1=t then p.2 else 0)+sumE r t)+(f p.1*p.2+_)
   rw [if_neg e,Int.zero_add,ih]; omega
theorem z2r (t x:γ):∀ l:List (γ × Int),sumE (l.filter fun p=>decide (p.1 ≠ t)) x=if x=t then 0 else sumE l x
 | []=>by simp [sumE]
 | p::r=>by
  have ih:=z2r t x r
  by_cases e:p.1=t
  ·rw [List.filter_cons_of_neg (by simpa using e),ih]
   by_cases hx:x=t
   ·rw [if_pos hx,if_pos hx]
   ·rw [if_neg hx,if_neg hx,z0f,if_neg (by rw [e]; exact fun z=>hx z.symm),Int.zero_add]
  ·rw [List.filter_cons_of_pos (by simpa using e),z0f,ih]
   by_cases hx:x=t
   ·rw [if_pos hx,if_pos hx,if_neg (by rw [hx]; exact e)]; rfl
   ·rw [if_neg hx,if_neg hx,z0f]
theorem z58 {p:γ × Int} {r:List (γ × Int)}:((p::r).filter fun q=>decide (q.1 ≠ p.1)).length<=r.length:=by
 rw [List.filter_cons_of_neg (by simp)]; exact List.length_filter_le _ _
theorem z3r (f:γ->Int):∀ (n:Nat) (as bs:List (γ × Int)),as.length+bs.length<=n->(∀ x,sumE as x=sumE bs x)->wsum f as=wsum f bs
 | n,[],[],_,_=>rfl
 | 0,p::r,bs,h,_=>by simp at h
 | 0,[],p::r,h,_=>by simp at h
 | n+1,p::r,bs,h,e=>by
  rw [z2j f p.1 (p::r),z2j f p.1 bs,e p.1,z3r f n ((p::r).filter fun q=>decide (q.1 ≠ p.1)) (bs.filter fun q=>decide (q.1 ≠ p.1)) ?_ fun x=>?_]
  ·have h1:=z58 (p:=p) (r:=r)
   have h2:=List.length_filter_le (fun q:γ × Int=>decide (q.1 ≠ p.1)) bs
   simp only [List.length_cons] at h
   omega
  ·rw [z2r,z2r,e]
 | n+1,[],p::r,h,e=>by
  rw [z2j f p.1 (p::r),z2j f p.1 [],<- e p.1,z3r f n (([]:List (γ × Int)).filter fun q=>decide (q.1 ≠ p.1)) ((p::r).filter fun q=>decide (q.1 ≠ p.1)) ?_ fun x=>?_]
  ·have h1:=z58 (p:=p) (r:=r)
   simp only [List.length_cons,List.length_nil,List.filter_nil] at h ⊢
   omega
  ·rw [z2r,z2r,e]
end
namespace Gr
theorem wsum_tms (f:Tr->Int) (m:Int):∀ l:List (Tr × Int),wsum f (tmsL m l)=wsum f l*m
 | []=>by show (0:Int)=0*m; rw [Int.zero_mul]
 | p::r=>by
  show f p.1*(p.2*m)+wsum f (tmsL m r)=(f p.1*p.2+wsum f r)*m
  rw [wsum_tms f m r,Int.add_mul,Int.mul_assoc]
end Gr
section
variable {prog:Program} {w:World} {A:Around} {E:Value->Shared->Prop} {st:Shared} {K:PySem.W.Frag} {e D:Addr} {oe:Obj} {dd:Option Obj}
theorem zd8 (C:ExcC K D):PySem.W.findObj K D dd "__class__"=some (.bind (.builtin "getset_descriptor.__get__") (.builtin "object.__class__")):=by
 obtain ⟨cd,hcd,_⟩:=PySem.W.any_some C.hd
 simp only [PySem.W.findObj,hcd,C.ha,C.hn,C.ht,Option.bind_some]
theorem zh7 {Q:Option Value->Shared->Prop} (C:ExcC K D) (X:K.In st.heap) (I:PySem.W.InstAt st.heap e oe D dd) (q:Q (some (.ref D)) { st with toks:=st.toks+1 }):wpAny (model prog w) A (getAttr? (.ref e) "__class__") Q E st:=by
 have kf:=zd8 (dd:=dd) C
 obtain ⟨hp,gn,dc,tk,ows⟩:=st
 have K0:=I.type (M:=model prog w)
 have K1:=PySem.W.looks_findIn (M:=model prog w) X C.hg
 have K2:=PySem.W.looks_findIn (M:=model prog w) X C.hk
 have K3:=PySem.W.looks_find (M:=model prog w) X I kf
 have kb:Looks (model prog w) hp (isInstance (.ref e) (.type "BaseException")) true:=K0.andThen (PySem.W.looks_subIn X C.hs)
 have z2:(Value.builtin "BaseException.__getattribute__" == Value.builtin "object.__getattribute__")=false:=by decide +kernel
 have z1:(onTheHeap (Value.ref D)&&Value.builtin "BaseException.__getattribute__" == Value.builtin "object.__getattribute__")=false:=by rw [z2,Bool.and_false]
 unfold getAttr? getAttrBy? getAttrBy
 refine wpAny_bind (wpAny_mkText (wpAny_bind (wpAny_attempt (wpAny_holding (wpAny_bind (K0.at (wpAny_bind (K1.at ?gb))))))))
 case gb =>
 show wpAny _ _ (if (onTheHeap (Value.ref D)&&Value.builtin "BaseException.__getattribute__" == Value.builtin "object.__getattribute__")=true then _ else _) _ _ _
 rw [z1,if_neg Bool.false_ne_true]
 unfold getAttrByItsOwn hookBefore
 refine wpAny_bind ?gc
 case gc =>
 rw [if_pos (show onTheHeap (Value.ref D)=true from rfl)]
 refine K2.at (wpAny_bind (wpAny_attempt (wpAny_holding ?gd)))
 case gd =>
 unfold callGetattribute
 rw [show (false&&onTheHeap (Value.builtin "BaseException.__getattribute__"))=false from rfl,if_neg Bool.false_ne_true]
 unfold boundAndCalled
 rw [PySem.F.excAttr_ValueError.ga.bind (.ref e)]
 refine wpAny_bind (wpAny_pure ?ge)
 case ge =>
 show wpAny _ _ (call (.builtin "BaseException.__getattribute__") [.ref e,.str "__class__" tk]) _ _ _
 refine wpAny_call (codeAny_call_builtin PySem.F.excAttr_ValueError.ga.plain PySem.F.entry_bexc_ga ?gf)
 case gf =>
 refine @check_slot (model prog w) _ _ ⟨hp,gn,dc,tk+1,ows⟩ "BaseException.__getattribute__" "BaseException" "__getattribute__" (.ref e) [.str "__class__" tk] [] _ (by decide +kernel) (by decide +kernel) kb (PySem.F.args_bexc_ga (.ref e) (.str "__class__" tk)) ?gg
 case gg =>
 unfold Builtin.«object.__getattribute__»
 refine wpAny_bind (wpAny_of_eq (a:=((Value.ref e:Value),[Value.str "__class__" tk])) (by first | rfl | (simp only [slotArgs]; rfl)) ?gh)
 case gh =>
 refine wpAny_bind (wpAny_pure (wpAny_bind (K0.at (wpAny_bind (K3.at ?gi)))))
 case gi =>
 show wpAny _ _ (holding [Value.builtin "object.__class__"] (call (.builtin "getset_descriptor.__get__") [.builtin "object.__class__",.ref e,.ref D]) >>= ret) _ _ _
 refine wpAny_bind (wpAny_holding (wpAny_call (PySem.W.class_get (s:=⟨hp,gn,dc,tk+1,ows⟩) (ox:=oe) (od:=dd) X I C.hm ?gj)))
 case gj =>
 refine wpAny_pure ?gk
 case gk =>
 show wpAny _ _ (handedOut (.ref D)) _ _ _
 rw [handedOut_of (v:=.ref D) rfl]
 first
  | exact wpAny_pure (wpAny_pure q)
  | exact wpAny_pure q
  | exact wpAny_pure (wpAny_bind (wpAny_pure (wpAny_pure q)))
theorem kit_exc (C:ExcC K D):PySem.W.KitX K (.ref e) (.ref D) (fun h=>PySem.W.InstAt h e oe D dd) where
 ty:=fun _ _ _ I=>I.type
 it:=fun M h X _=>by
  obtain ⟨cd,hcd,_⟩:=PySem.W.any_some C.hd
  unfold PySem.W.clsIn at hcd
  split at hcd
  ·next ho=>exact fun A' Q' E' s' k q=>by unfold isType loadHead; exact wpAny_bind (wpAny_loadPart (k _ _ (X _ _ ho)) (wpAny_pure q))
  ·cases hcd
 ne:=fun h tp dd' its n sl X htp=>Bool.eq_false_iff.mpr fun q=>by
  obtain ⟨cd,hcd,_⟩:=PySem.W.any_some C.hd
  cases Value.ref.inj (beq_iff_eq.mp q)
  unfold PySem.W.clsIn at hcd
  split at hcd
  ·next ho=>exact absurd ((X _ _ ho).symm.trans htp) (fun z=>by cases z)
  ·cases hcd
 ca:=fun X I k=>zh7 C X I k
end
structure zba (K:PySem.W.Frag) (mg:Str->Option Value) (c:Str->Addr) (caught names kinds:List Str):Prop where
 glo:∀ n ∈ names,mg n=some (.ref (c n))
 FellError:mg "FellError"=some (.ref (c "FellError"))
 ve:mg "ValueError"=none
 exc:∀ n ∈ caught,ExcC K (c n)
 exm:∀ n ∈ caught,PySem.W.exmOne K (.ref (c n)) (.ref (c "FellError"))=some true
 kve:∀ n ∈ caught,PySem.W.kitOne K (.ref (c n)) (.type "ValueError")=some true
 kit:∀ n ∈ caught,∀ m ∈ names,PySem.W.kitOne K (.ref (c n)) (.ref (c m))=some (decide (n=m))
 nok:∀ n ∈ kinds,PySem.W.findIn K (.ref (c n)) "kind"=some none
 exo:∀ n ∈ caught,∀ m ∈ names,PySem.W.exmOne K (.ref (c n)) (.ref (c m))=some (decide (n=m))
def ermB (K:PySem.W.Frag) (c:Str->Addr) (caught names:List Str):Bool:=caught.all fun n=>zal K (c n)&&(decide (PySem.W.exmOne K (.ref (c n)) (.ref (c "FellError"))=some true)&&(decide (PySem.W.kitOne K (.ref (c n)) (.type "ValueError")=some true)&&names.all fun m=>decide (PySem.W.kitOne K (.ref (c n)) (.ref (c m))=some (decide (n=m)))&&decide (PySem.W.exmOne K (.ref (c n)) (.ref (c m))=some (decide (n=m)))))
theorem zh1 {K:PySem.W.Frag} {mg:Str->Option Value} {c:Str->Addr} {caught names kinds:List Str} (h:ermB K c caught names=true) (g:∀ n ∈ names,mg n=some (.ref (c n))) (f:mg "FellError"=some (.ref (c "FellError"))) (v:mg "ValueError"=none) (k:∀ n ∈ kinds,PySem.W.findIn K (.ref (c n)) "kind"=some none):zba K mg c caught names kinds:=by
 have hh:∀ n ∈ caught,zal K (c n)=true/\PySem.W.exmOne K (.ref (c n)) (.ref (c "FellError"))=some true/\PySem.W.kitOne K (.ref (c n)) (.type "ValueError")=some true/\∀ m ∈ names,PySem.W.kitOne K (.ref (c n)) (.ref (c m))=some (decide (n=m))/\PySem.W.exmOne K (.ref (c n)) (.ref (c m))=some (decide (n=m)):=fun n hn=>by
  have:=List.all_eq_true.mp h n hn
  simp only [Bool.and_eq_true,decide_eq_true_eq,List.all_eq_true] at this
  exact this
 exact ⟨g,f,v,fun n hn=>zdk (hh n hn).1,fun n hn=>(hh n hn).2.1,fun n hn=>(hh n hn).2.2.1,fun n hn m hm=>((hh n hn).2.2.2 m hm).1,k,fun n hn m hm=>((hh n hn).2.2.2 m hm).2⟩
namespace Lad
theorem enc_inj {l k:Lad} (e:l.enc=k.enc):l=k:=by
 have h:=eqv_enc l k
 rw [<- e,eqv_enc] at h
 by_cases z:l=k
 ·exact z
 ·rw [decide_eq_false z,decide_eq_true rfl] at h; cases h
def maxL (x:Lad) (xs:List Lad):Lad:=xs.foldl (fun a y=>if a.lt y=true then y else a) x
theorem maxL_enc:∀ (xs:List Lad) (x:Lad),maxD x.enc (xs.map enc)=(maxL x xs).enc
 | [],x=>rfl
 | y::r,x=>by
  show maxD (if dataLt x.enc y.enc=true then y.enc else x.enc) (r.map enc)=(maxL (if x.lt y=true then y else x) r).enc
  by_cases h:x.lt y=true
  ·rw [if_pos h,if_pos (show dataLt x.enc y.enc=true from h)]; exact maxL_enc r y
  ·rw [if_neg h,if_neg (show ¬ dataLt x.enc y.enc=true from h)]; exact maxL_enc r x
theorem maxL_mem:∀ (xs:List Lad) (x:Lad),maxL x xs ∈ x::xs
 | [],x=>mcs ..
 | y::r,x=>by
  show maxL (if x.lt y=true then y else x) r ∈ _
  by_cases h:x.lt y=true
  ·rw [if_pos h]; exact mcm _ (maxL_mem r y)
  ·rw [if_neg h]
   rcases List.mem_cons.mp (maxL_mem r x) with e | e
   ·rw [e]; exact mcs ..
   ·exact mcm _ (mcm _ e)
theorem maxL_ge:∀ (xs:List Lad) (x:Lad),∀ y ∈ x::xs,(maxL x xs).lt y=false
 | [],x,y,hy=>by rw [List.mem_singleton.mp hy]; exact lt_irrefl _
 | z::r,x,y,hy=>by
  show (maxL (if x.lt z=true then z else x) r).lt y=false
  by_cases h:x.lt z=true
  ·rw [if_pos h]
   have g:=maxL_ge r z
   rcases List.mem_cons.mp hy with rfl | hy
   ·cases e:(maxL z r).lt y with
    | false=>rfl
    | true =>
     have:=lt_trans _ _ _ e h
     rw [g z (mcs ..)] at this; cases this
   ·exact g y hy
  ·rw [if_neg h]
   have g:=maxL_ge r x
   rcases List.mem_cons.mp hy with rfl | hy
   ·exact g _ (mcs ..)
   rcases List.mem_cons.mp hy with rfl | hy
   ·cases e:(maxL x r).lt y with
    | false=>rfl
    | true =>
     have h:=eq_false_of_ne_true h
     have gx:=g x (mcs ..)
     by_cases e1:x=y
     ·subst e1; rw [gx] at e; cases e
     ·have:=lt_trans _ _ _ e (lt_tri x y e1 h)
      rw [gx] at this; cases this
   ·exact g y (mcm _ hy)
end Lad
section
variable {prog:Program} {w:World} {A:Around} {E:Value->Shared->Prop} {s:Shared}
theorem zhw {l:Addr} {vs:Array Value} {x:PyData} {xs:List PyData} {as:List Addr} {Q:Value->Shared->Prop} (hh:A.handled=none) (hl:s.heap.IsList l vs) (hr:ReadsAll s.heap vs.toList (x::xs) as) (ha:AlikeAll (x::xs)) (hu:A.units+1+PyData.depthAll (x::xs) < cLine)
  (h:∀ (i:Nat) v h' tk,vs[i]?=some v->(x::xs).getD i .none=maxD x xs->(∀ b o,s.heap.get? b=some o->h'.get? b=some o)->Q v { s with heap:=h',toks:=tk }) :
  wpAny (model prog w) A (call (.builtin "max") [.ref l]) Q E s:=by
 have hn:vs.size=xs.length+1:=readsAll_len hr
 refine call_max_walkH (iter_listW (A:=A.in1) hh hl fun s2 e W st hfp hw hk=>?_)
 refine ⟨_,_,_,_,_,_,_,s.heap,_,rfl,W,st,hfp,by omega,hw,hk,cmpIn_gt (A:=A.in1) hr ha (by show A.units+1+_ < _; exact hu),fun v s' hP m=>?_⟩
 obtain ⟨h',tk,rfl,hk'⟩:=moved_old e rfl m
 have e1:vs.size-1=xs.length:=by omega
 have e2:=(argBest_fold (fun a b=>dataLt b a) PyData.none x xs xs.length (Nat.le_refl _)).2
 rw [List.take_length] at e2
 refine h _ v h' tk hP ?_ hk'
 rw [e1]
 unfold maxD
 exact e2
end
def zlz (K:PySem.W.Frag):List V->Hp->VK->Prop:=fun vs H Q=>∃ (a:Addr) (xs:List V) (l:Lad) (ls:List Lad),vs=[V.ref a]/\SqL K H a xs/\Bears K H Lad.enc xs (l::ls)/\(∀ k ∈ l::ls,k.deep<=45)/\∀ x:V,LA K H x (Lad.maxL l ls)->Q x H
theorem Vals.at':∀ {vs:List V} {us:List Value} {i:Nat} {u:Value},Vals vs us->us[i]?=some u->∃ v,vs[i]?=some v/\RelV v u
 | _,_,0,u,.cons r _,h=>⟨_,rfl,by have e:=Option.some.inj (show some _=some u from h); subst e; exact r⟩
 | _,_,i+1,u,.cons _ t,h=>Vals.at' (i:=i) t (by simpa using h)
 | _,_,i,u,.nil,h=>by simp at h
theorem zgp {X:Cx} (hc:X.calm=true) (hu:X.A.units+110 < cLine):CallR X (.builtin "max") (zlz X.K):=by
 intro pins s σ H vs us Q I r h
 obtain ⟨a,xs,l,ls,rfl,hs,hb,hd,q⟩:=h
 obtain ⟨its,rv,hl,_⟩:=I.list hs
 rw [Vals.ref1 r]
 obtain ⟨_,e2⟩:=z28 I hb rv
 obtain ⟨as,ra⟩:=each_readsAll Lad.enc e2
 have al:AlikeAll ((l::ls).map Lad.enc):=⟨fun x hx y hy=>by
  obtain ⟨p,_,rfl⟩:=List.mem_map.mp hx
  obtain ⟨p2,_,rfl⟩:=List.mem_map.mp hy
  exact Lad.alike_enc p p2,fun x hx=>by
  obtain ⟨p,_,rfl⟩:=List.mem_map.mp hx
  exact Lad.enc_ne p⟩
 have hdep:PyData.depthAll ((l::ls).map Lad.enc)<=91:=z50 fun d hd'=>by
  obtain ⟨p,hp,rfl⟩:=List.mem_map.mp hd'
  have:=hd p hp
  have:=Lad.enc_depth p
  omega
 refine zhw (vs:=its.toArray) (x:=l.enc) (xs:=ls.map Lad.enc) (as:=as) (I.ok.hd hc) hl.isList (by simpa using ra) al (by show X.A.units+1+PyData.depthAll ((l::ls).map Lad.enc) < cLine; omega) fun i u h' tk hi e hk=>?_
 obtain ⟨v,ev,rvu⟩:=Vals.at' (i:=i) rv (by simpa using hi)
 obtain ⟨p,ep,hp⟩:=hb.get ev
 have e3:p.enc=(Lad.maxL l ls).enc:=by
  rw [<- Lad.maxL_enc,<- e,show (l.enc::ls.map Lad.enc)=(l::ls).map Lad.enc from rfl,List.getD_eq_getElem?_getD,List.getElem?_map,ep]
  rfl
 have e4:=Lad.enc_inj e3
 exact ⟨v,H,I.kept hk,rvu,q v (by rw [<- e4]; exact hp)⟩
def lad (w:Bool) (o l:Lad):Lad:=if w=true then Lad.spd o l else Lad.bhd o l
def Bk.wide (b:Bk) (n:Str):Bool:=match b.get n with
 | some k=>k.w
 | none=>false
theorem Bk.wide_get {b:Bk} {n:Str} {k:Kd} (h:b.get n=some k):b.wide n=k.w:=by unfold Bk.wide; rw [h]
namespace Gr
def rkT (b:Bk) (ρ:Str->Lad):Gr->List Lad
 | .nil=>[]
 | .cons k g m r=>Lad.tms (lad (b.wide k) (ρ k) (Lad.bths (rkT b ρ g))) m::rkT b ρ r
def rk (b:Bk) (ρ:Str->Lad) (g:Gr):Lad:=Lad.bths (rkT b ρ g)
def rkt (b:Bk) (ρ:Str->Lad) (t:Tr):Lad:=lad (b.wide t.1) (ρ t.1) (rk b ρ t.2)
variable {b:Bk} {ρ:Str->Lad} {C:Int}
theorem rkT_ps:∀ g:Gr,rkT b ρ g=g.ps.map fun p=>Lad.tms (rkt b ρ p.1) p.2
 | .nil=>rfl
 | .cons k g m r=>by
  show _::rkT b ρ r=_::r.ps.map _
  rw [rkT_ps r]; rfl
theorem rk_ps (g:Gr):rk b ρ g=Lad.bths (g.ps.map fun p=>Lad.tms (rkt b ρ p.1) p.2):=by unfold rk; rw [rkT_ps]
theorem S_bths (ls:List Lad) (x:Lad):Lad.S (Lad.bths ls) x=(ls.map fun l=>Lad.S l x).sum:=by
 have e:Lad.S (Lad.bths ls) x=Lad.sumAt (ls.flatMap Lad.ps) x:=by
  unfold Lad.bths Lad.S
  rw [Lad.ps_ofPs,Lad.sumAt_jn,Lad.sumAt_perm (Lad.dsc_perm _)]
 rw [e]
 clear e
 induction ls with
 | nil=>rfl
 | cons l r ih=>rw [List.flatMap_cons,Lad.sumAt_append,ih]; rfl
theorem S_rk (g:Gr) (x:Lad):Lad.S (rk b ρ g) x=wsum (fun t=>Lad.S (rkt b ρ t) x) g.ps:=by
 rw [rk_ps,S_bths]
 induction g.ps with
 | nil=>rfl
 | cons p r ih =>
  rw [List.map_cons,List.map_cons,List.sum_cons,ih,Lad.S_tms]
  rfl
end Gr
structure LFit (l:Lad):Prop where
 deep:l.deep<=25
 parts:l.parts<=900
 num:∀ p ∈ l.ps,0<=p.2/\p.2 < 2 ^ 2000
def Gr.Fit (b:Bk) (ρ:Str->Lad) (ns:List Str):Gr->Prop
 | .nil=>True
 | .cons k g m r=>(k ∈ ns/\k ∈ b.names/\ρ k ≠ .nil/\LFit (ρ k)/\LFit (Gr.rk b ρ g)/\LFit (Gr.rkt b ρ (k,g))/\0<=m/\m < 2 ^ 2000/\((Gr.rkT b ρ (.cons k g m r)).flatMap Lad.ps).length<=900)/\Gr.Fit b ρ ns g/\Gr.Fit b ρ ns r
def RkD (K:PySem.W.Frag) (H:Hp) (d:Addr) (ρ:Str->Lad) (ns:List Str):Prop:=∃ us:List V,H d=some (.dK (List.zipWith (fun (n:Str) (u:V)=>((Sum.inr n:Key),u)) ns us))/\Bears K H Lad.enc us (ns.map ρ)
theorem za8 {K:PySem.W.Frag} {H:Hp} {ρ:Str->Lad} {n:Str}:∀ {ns:List Str} {us:List V},Bears K H Lad.enc us (ns.map ρ)->n ∈ ns->∃ u,valV (List.zipWith (fun (n:Str) (u:V)=>((Sum.inr n:Key),u)) ns us) (Sum.inr n)=some u/\LA K H u (ρ n)
 | [],_,_,hn=>nomatch hn
 | m::r,us,h,hn=>by
  cases h with
  | @cons u us' _ _ h1 h2 =>
  by_cases e:m=n
  ·subst e
   exact ⟨u,by simp [valV],h1⟩
  ·obtain ⟨v,h3,h4⟩:=za8 h2 (by rcases List.mem_cons.mp hn with z | z; exact absurd z.symm e; exact z)
   refine ⟨v,?_,h4⟩
   rw [List.zipWith_cons_cons]
   unfold valV
   rw [List.find?_cons_of_neg (by simp only [decide_eq_true_eq]; exact fun z=>e (Sum.inr.inj z))]
   exact h3
theorem RkD.val {K:PySem.W.Frag} {H:Hp} {d:Addr} {ρ:Str->Lad} {ns:List Str} {n:Str} (h:RkD K H d ρ ns) (hn:n ∈ ns):∃ u,DGet H d (.str n) (some u)/\LA K H u (ρ n):=by
 obtain ⟨us,h1,h2⟩:=h
 obtain ⟨u,h3,h4⟩:=za8 h2 hn
 exact ⟨u,getK h1 h3,h4⟩
theorem RkD.sb {K:PySem.W.Frag} {H H':Hp} {d:Addr} {ρ:Str->Lad} {ns:List Str} {ps:List Addr} (h:RkD K H d ρ ns) (s:SB ps H H') (hd:d ∉ ps):RkD K H' d ρ ns:=by
 obtain ⟨us,h1,h2⟩:=h
 exact ⟨us,s.keep _ _ h1 hd,h2.sb s Lad.noList_enc⟩
theorem RkD.sb0 {K:PySem.W.Frag} {H H':Hp} {d:Addr} {ρ:Str->Lad} {ns:List Str} (h:RkD K H d ρ ns) (s:SB [] H H'):RkD K H' d ρ ns:=h.sb s nmn
def clm (b:Bk) (ρ:Str->Lad) (r:Ru):Lad:=Lad.abv (Gr.rk b ρ r.1) (Gr.rk b ρ r.2)
def RFit (b:Bk) (ρ:Str->Lad) (ns:List Str) (r:Ru):Prop:=Gr.Fit b ρ ns r.1/\Gr.Fit b ρ ns r.2/\(Gr.rk b ρ r.1).deep<=24/\(Gr.rk b ρ r.2).deep<=24/\(Gr.rk b ρ r.1).parts<=390/\(Gr.rk b ρ r.2).parts<=390
def z69 (K:PySem.W.Frag) (C:Addr):Sp:=fun vs H Q _=>∃ (v u:V) (d:Addr) (b:Bk) (ρ:Str->Lad) (ns:List Str) (r:Ru),vs=[v,.ref d,u]/\BkA K C H v b/\b.length<=1000/\RkD K H d ρ ns/\Dp K H u (Ru.enc r)/\r.1.deep < 20/\r.2.deep < 20/\r.1.parts<=900/\r.2.parts<=900/\RFit b ρ ns r/\∀ (x:V) (H':Hp),SB [] H H'->LA K H' x (clm b ρ r)->Q x H'
theorem z9h (b:Bk) (ρ:Str->Lad):clm b ρ (.nil,.nil)=Lad.uno:=by
 show Lad.abv (Gr.rk b ρ .nil) (Gr.rk b ρ .nil)=Lad.uno
 have e:Gr.rk b ρ .nil=.nil:=by
  show Lad.ofPs (jn (Lad.dsc []))=.nil
  have:Lad.dsc []=[]:=List.Perm.eq_nil (Lad.dsc_perm [])
  rw [this]; rfl
 rw [e]
 show Lad.bth .nil Lad.uno=Lad.uno
 rw [Lad.bth_comm]
 exact Lad.bth_nil Lad.uno_ok
theorem zh8 (b:Bk) (ρ:Str->Lad) (ns:List Str):RFit b ρ ns (.nil,.nil):=by
 have e:Gr.rk b ρ .nil=.nil:=by
  show Lad.ofPs (jn (Lad.dsc []))=.nil
  have:Lad.dsc []=[]:=List.Perm.eq_nil (Lad.dsc_perm [])
  rw [this]; rfl
 exact ⟨trivial,trivial,by show (Gr.rk b ρ .nil).deep<=24; rw [e]; decide,by show (Gr.rk b ρ .nil).deep<=24; rw [e]; decide,by show (Gr.rk b ρ .nil).parts<=390; rw [e]; decide,by show (Gr.rk b ρ .nil).parts<=390; rw [e]; decide⟩
structure OwnR (b:Bk) (ρ:Str->Lad):Prop where
 own:∀ k ∈ b,EndK b k.n->ρ k.n=Lad.maxL Lad.uno (k.rs.map (clm b ρ))
 fit:∀ k ∈ b,EndK b k.n->∀ ns,(∀ n,n ∈ adj b k.n->n ∈ ns)->∀ r ∈ k.rs,RFit b ρ ns r
 deep:∀ k ∈ b,EndK b k.n->∀ r ∈ k.rs,(clm b ρ r).deep<=45
structure EndO (b:Bk) (es:List Str):Prop where
 nd:es.Nodup
 len:es.length<=8
 mem:∀ n,n ∈ es ↔ n ∈ b.names/\EndK b n
 ord:∀ (i:Nat) (n:Str),es[i]?=some n->∀ k ∈ adj b n,k ∈ es.take i
def z2w (K:PySem.W.Frag) (C N:Addr):Sp:=fun vs H Q E=>∃ (v:V) (b:Bk),vs=[v]/\BkA K C H v b/\b.Ok/\∀ (l:Addr) (es:List Str) (H':Hp),SB [] H H'->H l=none->H' l=some (.lst (es.map V.str))->EndO b es->Q (.ref l) H'
def z3f (K:PySem.W.Frag) (C N:Addr):Sp:=fun vs H Q _=>∃ (v:V) (b:Bk) (ρ:Str->Lad),vs=[v]/\BkA K C H v b/\b.Ok/\OwnR b ρ/\∀ (d:Addr) (es:List Str) (H':Hp),SB [] H H'->H d=none->RkD K H' d ρ es->EndO b es->Q (.ref d) H'
def z53 (K:PySem.W.Frag) (C N:Addr):Sp:=fun vs H Q E=>∃ (v w:V) (b:Bk) (g:Gr),vs=[v,w]/\BkA K C H v b/\b.Ok/\GA K H w g/\g.deep<=68/\g.parts<=3000/\Gr.Named b.names g/\(∀ x ∈ g.within,EndK b x.1.1)/\∀ H',SB [] H H'->Q .non H'
theorem RkD.put {K:PySem.W.Frag} {H:Hp} {d:Addr} {ρ:Str->Lad} {ns:List Str} {n:Str} {x:V} (h:RkD K H d ρ ns) (hn:n ∉ ns) (hl:ns.length<=1000) (hx:LA K H x (ρ n)):∃ H',DPut H d (.str n) x H'/\SB [d] H H'/\RkD K H' d ρ (ns++[n]):=by
 obtain ⟨us,h1,h2⟩:=h
 have szl:=sizeLine_eq
 have ul:us.length=ns.length:=by rw [h2.length,List.length_map]
 have t:=SB.setD (ps:=[d]) h1 (by simp) (.dK (putK (List.zipWith (fun (n:Str) (u:V)=>((Sum.inr n:Key),u)) ns us) (Sum.inr n) x))
 have e:putK (List.zipWith (fun (n:Str) (u:V)=>((Sum.inr n:Key),u)) ns us) (Sum.inr n) x=List.zipWith (fun (n:Str) (u:V)=>((Sum.inr n:Key),u)) (ns++[n]) (us++[x]):=by
  rw [z2g fun p hp z=>?_,List.zipWith_append (by omega)]
  ·rfl
  ·clear t h1 h2 ul
   induction ns generalizing us with
   | nil=>cases hp
   | cons m r ih =>
    cases us with
    | nil=>cases hp
    | cons u us =>
     rw [List.zipWith_cons_cons] at hp
     rcases List.mem_cons.mp hp with rfl | hp
     ·exact hn (List.mem_cons.mpr (.inl (Sum.inr.inj z).symm))
     ·exact ih (fun h=>hn (mcm _ h)) (by simp at hl; omega) us hp
 refine ⟨_,DPut.k (k:=Sum.inr n) h1 (by rw [List.length_zipWith]; omega),t,us++[x],?_,?_⟩
 ·rw [upd_same,e]
 ·rw [List.map_append]
  exact (h2.sb t Lad.noList_enc).append (.cons (LA.sb hx t) .nil)
namespace Lad
theorem deep_le' {n:Nat}:∀ {l:Lad},(∀ p ∈ l.ps,p.1.deep < n)->l.deep<=n
 | .nil,_=>Nat.zero_le _
 | .cons e m r,h=>by
  have h1:=h (e,m) (mcs ..)
  have h2:=deep_le' (l:=r) fun p hp=>h p (mcm _ hp)
  have h1:e.deep < n:=h1
  show max (1+e.deep) r.deep<=n
  omega
theorem tms_one {e:Lad} {m:Int} (hm:1<=m):tms (.cons e 1 .nil) m=.cons e m .nil:=by
 unfold tms
 rw [if_neg (by omega)]
 show Lad.cons e (1*m) .nil=_
 rw [Int.one_mul]
end Lad
namespace Gr
variable {n:Str} {b:Bk} {ρ:Str->Lad} {B C:Int}
theorem tdy_self {bs:List (Tr × Int)} (h:bs.Pairwise (fun p q=>p.1 ≠ q.1)):(tdy tEnc bs).Perm bs/\tdy tEnc bs=srtE pEnc bs:=by
 have e:tdy tEnc bs=srtE pEnc bs:=by
  unfold tdy
  exact zej ((List.Perm.pairwise_iff (fun h=>Ne.symm h) (z0r (enc:=z0j tEnc) bs)).mpr h)
 exact ⟨by rw [e]; exact z0r bs,e⟩
end Gr
theorem z7r {K:PySem.W.Frag} {H:Hp}:∀ ks:List Str,Bears K H PyData.str (ks.map V.str) ks
 | []=>.nil
 | k::r=>.cons (.str k) (z7r r)
abbrev zl9:R2:=fun x y H Q=>∃ (z:Str) (n:Nat),x=.str z/\y=.int (n:Int)/\n<=1000/\z.length<=1000/\Q (.str (Txt.mul z (n:Int))) H
theorem zcn {z:Str} {n:Nat} (hn:n<=1000) (hz:z.length<=1000):MulOk z (n:Int):=by
 have hp:z.length*n<=1000*1000:=Nat.mul_le_mul hz hn
 refine ⟨?_,fun h1 _=>?_,fun h1 _=>?_⟩
 ·rw [decide_eq_false (by omega),decide_eq_false (by omega)]; rfl
 ·have:(z.length:Int)<=(2 ^ 63-1) / (n:Int):=by
   refine (Int.le_ediv_iff_mul_le (by omega)).mpr ?_
   have:((z.length*n:Nat):Int)<=1000000:=by omega
   rw [Int.natCast_mul] at this
   omega
  omega
 ·rw [Int.toNat_natCast]
  unfold Builtin.Str.tooLong
  rw [decide_eq_false]
  have:=sizeLine_eq
  omega
theorem z8k {X:Cx}:OpR X (binaryOp .Mult) zl9:=by
 intro pins s σ H x y v u Q I rx ry h
 obtain ⟨z,n,rfl,rfl,hn,hz,q⟩:=h
 obtain ⟨t,rfl⟩:=rx
 obtain ⟨t',rfl⟩:=ry
 exact PySem.SB.mul (zcn hn hz) (fun t' tk=>⟨.str (Txt.mul z (n:Int)),H,I.tok _,⟨_,rfl⟩,q⟩)
theorem z9o (c:Nat):∀ (n:Nat) (b:Array Nat),((List.replicate n (#[c]:Array Nat)).foldl (·++·) b).toList=b.toList++List.replicate n c
 | 0,b=>by simp
 | n+1,b=>by
  rw [List.replicate_succ,List.foldl_cons,z9o c n]
  simp [List.replicate_succ]
theorem mul_one (c n:Nat):(Txt.mul ⟨#[c]⟩ (n:Int)).cps.toList=List.replicate n c:=by
 unfold Txt.mul
 by_cases h1:(n:Int) < 1
 ·rw [if_pos h1]
  have:n=0:=by omega
  subst this; rfl
 ·rw [if_neg h1]
  by_cases h2:((n:Int) == 1 || (⟨#[c]⟩:Str).length == 0)=true
  ·rw [if_pos h2]
   have:n=1:=by
    have e:((⟨#[c]⟩:Str).length == 0)=false:=rfl
    rw [e,Bool.or_false] at h2
    have:=beq_iff_eq.mp h2
    omega
   subst this; rfl
  ·rw [if_neg h2,Int.toNat_natCast]
   exact (z9o c n #[]).trans (by simp)
theorem Ltr.mul {c:Nat} (n:Nat) (h:97<=c/\c<=122):Ltr (Txt.mul ⟨#[c]⟩ (n:Int)) n:=by
 refine ⟨?_,fun x hx=>?_⟩
 ·rw [mul_one]; simp
 ·rw [mul_one] at hx
  rw [List.eq_of_mem_replicate hx]; exact h
def Dr (H:Hp) (p:Addr):Prop:=∃ ns:List Int,H p=some (.lst (ns.map V.int))/\(∀ x ∈ ns,0<=x/\x < 2147483629)/\ns.length<=1000
theorem Dr.keep {H H':Hp} {p:Addr} {ps:List Addr} (h:Dr H p) (e:SB ps H H') (n:p ∉ ps):Dr H' p:=by
 obtain ⟨ns,h1,h2⟩:=h
 exact ⟨ns,e.keep _ _ h1 n,h2⟩
theorem Dr.sb {H H':Hp} {p:Addr} (h:Dr H p) (e:SB [] H H'):Dr H' p:=h.keep e nmn
theorem Dr.ne {H:Hp} {p q:Addr} (h:Dr H p) (n:H q=none):p ≠ q:=by
 obtain ⟨ns,h1,h2⟩:=h
 exact ne_of_none h1 n
theorem Dr.lsts {H:Hp} {p:Addr} (h:Dr H p):Lsts H [p]:=by
 obtain ⟨ns,h1,h2⟩:=h
 exact Lsts.one h1
def z8l (K:PySem.W.Frag):Sp:=fun vs H Q _=>∃ (a:Addr) (ns:List Int) (m:Nat),vs=[.ref a,.int (m:Int)]/\SqL K H a (ns.map V.int)/\ns.length<=63/\m<=1000/\∀ (p:Addr) (H':Hp),SB [] H H'->H p=none->Dr H' p->Q (.ref p) H'
def z2k:Sp:=fun vs H Q _=>∃ p:Addr,vs=[.ref p]/\Dr H p/\∀ (r:Int) (H':Hp),0<=r->r < 2147483629->SB [p] H H'->Dr H' p->Q (.int r) H'
def z43 (K:PySem.W.Frag):Sp:=fun vs H Q _=>∃ (p:Addr) (m:Nat),vs=[.ref p,.int (m:Int)]/\Dr H p/\m<=8/\∀ (n:Addr) (ks:List Str) (H':Hp),SB [p] H H'->Dr H' p->H n=none->H' n=some (.lst (ks.map V.str))->ks.length=m->(∀ k ∈ ks,z02 k)->ks.Nodup->Q (.ref n) H'
def z8c:Sp:=fun vs H Q _=>∃ (p:Addr) (g:Int),vs=[.ref p,.int g]/\Dr H p/\9<=g/\g<=10 ^ 60/\∀ (r:Int) (H':Hp),1<=r->r<=g->SB [p] H H'->Dr H' p->Q (.int r) H'
def z0v (K:PySem.W.Frag) (m:Nat):Sp:=fun vs H Q _=>∃ (p nl:Addr) (ks:List Str) (room:Nat) (g:Int),vs=[.ref p,.ref nl,.int (room:Int),.int g]/\Dr H p/\(H nl=some (.lst (ks.map V.str))/\nl ≠ p/\ks.length<=8/\∀ k ∈ ks,z02 k)/\room < m/\room<=10/\9<=g/\g<=10 ^ 60 /\
 ∀ (v:V) (t:Gr) (H':Hp),SB [p] H H'->Dr H' p->GA K H' v t->t.Ok (room*g+1)->t.parts<=room->t.deep<=room->Gr.Named ks t->Q v H'
structure Kinds40 (ks:List Str) (rounds:Bool) (b:Bk):Prop where
 names:b.names.Perm ks
 nums:∀ k ∈ b,∀ r ∈ k.rs,r.1.Ok (3*10 ^ 8+1)/\r.2.Ok (3*10 ^ 8+1)
 size:∀ k ∈ b,∀ r ∈ k.rs,r.1.parts+r.2.parts<=if ks.length > 3 then 2 else 3
 rules:∀ k ∈ b,k.rs.length<=4
 early:rounds=false->∀ k ∈ b,∀ i,ks[i]?=some k.n->∀ r ∈ k.rs,Gr.Named (ks.take i) r.1/\Gr.Named (ks.take i) r.2
 known:∀ k ∈ b,∀ r ∈ k.rs,Gr.Named ks r.1/\Gr.Named ks r.2
def z7m (K:PySem.W.Frag):Sp:=fun vs H Q _=>∃ (p nl:Addr) (ks:List Str) (rounds:Bool),vs=[.ref p,.ref nl,.bl rounds]/\Dr H p/\(H nl=some (.lst (ks.map V.str))/\nl ≠ p/\ks.length<=8/\(∀ k ∈ ks,z02 k)/\ks.Nodup/\ks ≠ []) /\
 ∀ (l:Addr) (xs:List V) (b:Bk) (H':Hp),SB [p] H H'->Dr H' p->H l=none->H' l=some (.lst xs)->KdAll K H' [p,l] xs b->b.Ok->Kinds40 ks rounds b->Q (.ref l) H'
theorem zhy {σ:L2.St} {H:Hp} {i:Nat} {c:Int} {Q:Bool->Hp->Prop} (hσ:σ[i]?=some (some (.int c))) (q:Q (decide ((1000000000000000000:Int)<=c\/c < 0)) H) :
  tOr (tTest (tOp (rI0 fun i j=>V.bl (decide (j<=i))) (tVar i) (tOp (rI CPow fun i j=>V.int (i ^ j.toNat)) (tC (V.int 10)) (tC (V.int 18))))) (tTest (tOp (rI0 fun i j=>V.bl (decide (i < j))) (tVar i) (tC (V.int 0)))) σ H Q:=by
 refine ⟨_,hσ,_,_,rfl,rfl,⟨by decide,by decide,by decide⟩,_,_,rfl,rfl,_,rfl,?_⟩
 have e18:(10:Int) ^ (18:Int).toNat=1000000000000000000:=by decide +kernel
 dsimp only
 rw [e18]
 by_cases h1:(1000000000000000000:Int)<=c
 ·rw [decide_eq_true (.inl h1)] at q
  rw [decide_eq_true h1]
  exact iteT q
 ·have:decide ((1000000000000000000:Int)<=c\/c < 0)=decide (c < 0):=by simp [h1]
  rw [this] at q
  rw [decide_eq_false h1]
  exact iteF ⟨_,hσ,_,_,rfl,rfl,_,rfl,q⟩
theorem z7o (t:Tr):∀ bs:List (Tr × Int),((bs.filter fun x=>decide (x.1=t)).map (·.2)).sum=sumE bs t
 | []=>rfl
 | x::r=>by
  rw [z0f]
  by_cases he:x.1=t
  ·rw [List.filter_cons_of_pos (by simp [he]),List.map_cons,List.sum_cons,z7o t r,if_pos he]
  ·rw [List.filter_cons_of_neg (by simp [he]),z7o t r,if_neg he]; omega
theorem z6y (t:Tr):∀ {bs:List (Tr × Int)},(∀ x ∈ bs,1<=x.2)->0<=sumE bs t
 | [],_=>Int.le_refl _
 | x::r,h=>by
  rw [z0f]
  have h1:=h x (mcs ..)
  have h2:=z6y t (bs:=r) fun y hy=>h y (mcm _ hy)
  split <;> omega
theorem za1 (t:Tr):∀ bs:List (Tr × Int),allE (bs.filter fun x=>decide (x.1 ≠ t))+sumE bs t=allE bs
 | []=>rfl
 | x::r=>by
  rw [z0f]
  have ih:=za1 t r
  by_cases he:x.1=t
  ·rw [List.filter_cons_of_neg (by simp [he]),if_pos he]
   show _=x.2+allE r
   omega
  ·rw [List.filter_cons_of_pos (by simp [he]),if_neg he]
   show x.2+allE (r.filter fun x=>decide (x.1 ≠ t))+(0+sumE r t)=x.2+allE r
   omega
theorem za2 (f:Tr × Int->Bool):∀ bs:List (Tr × Int),Gr.tot (bs.filter f)<=Gr.tot bs
 | []=>Nat.le_refl _
 | x::r=>by
  have ih:=za2 f r
  cases hf:f x with
  | true =>
   rw [List.filter_cons_of_pos hf]
   show 1+x.1.2.parts+Gr.tot (r.filter f)<=1+x.1.2.parts+Gr.tot r
   omega
  | false =>
   rw [List.filter_cons_of_neg (by simp [hf])]
   show _<=1+x.1.2.parts+Gr.tot r
   omega
theorem KdAll.cut {K:PySem.W.Frag} {H:Hp} {bad:List Addr}:∀ (n:Nat) {vs:List V} {b:Bk},KdAll K H bad vs b->KdAll K H bad (vs.take n) (b.take n)/\KdAll K H bad (vs.drop n) (b.drop n)
 | 0,_,_,h=>⟨.nil,h⟩
 | n+1,_,_,.nil=>⟨.nil,.nil⟩
 | n+1,_,_,.cons a t=>⟨.cons a (KdAll.cut n t).1,(KdAll.cut n t).2⟩
theorem zbu (b:Bk) (k:Kd) (n:Nat):(Bk.names (b.take n++[k]++b.drop n)).Perm (b.names++[k.n]):=by
 show ((b.take n++[k]++b.drop n).map (·.n)).Perm (b.map (·.n)++[k.n])
 have e:b.map (·.n)=(b.take n).map (·.n)++(b.drop n).map (·.n):=by rw [<- List.map_append,List.take_append_drop]
 rw [List.map_append,List.map_append,e,List.append_assoc,List.append_assoc]
 exact List.Perm.append_left _ List.perm_append_comm
theorem z8y {ss ks:List Str} {g:Gr} (h:∀ x ∈ ss,x ∈ ks) (hn:Gr.Named ss g):Gr.Named ks g:=fun x hx=>h _ (hn x hx)
theorem nodup_at {ks:List Str} (nd:ks.Nodup) {i j:Nat} {n:Str} (hi:ks[i]?=some n) (hj:ks[j]?=some n):i=j:=by
 obtain ⟨h1,e1⟩:=List.getElem?_eq_some_iff.mp hi
 obtain ⟨h2,e2⟩:=List.getElem?_eq_some_iff.mp hj
 rcases Nat.lt_trichotomy i j with h | h | h
 ·exact absurd (e1.trans e2.symm) (List.pairwise_iff_getElem.mp nd i j h1 h2 h)
 ·exact h
 ·exact absurd (e2.trans e1.symm) (List.pairwise_iff_getElem.mp nd j i h2 h1 h)
theorem KdAll.more {K:PySem.W.Frag} {H:Hp} {bad:List Addr} {R:Addr} (hR:H R=none):∀ {vs:List V} {b:Bk},KdAll K H bad vs b->KdAll K H (R::bad) vs b
 | _,_,.nil=>.nil
 | _,_,.cons a t=>by
  obtain ⟨t1,l,zs,e,h1,h2,h3,h4⟩:=a
  refine .cons ⟨t1,l,zs,e,h1,h2,h3,fun z=>?_⟩ (KdAll.more hR t)
  rcases List.mem_cons.mp z with z | z
  ·rw [z,hR] at h2; cases h2
  ·exact h4 z
theorem z0b (n:Nat):(1:Int)<=2 ^ n:=by
 have:(0:Int) < 2 ^ n:=Int.pow_pos (by decide)
 omega
theorem z0g {a b:Nat} (h:a<=b):(2:Int) ^ a<=2 ^ b:=by
 obtain ⟨k,rfl⟩:=Nat.le.dest h
 rw [Int.pow_add]
 have h1:=z0b a
 have h2:=z0b k
 have:=Int.mul_le_mul_of_nonneg_left h2 (show (0:Int)<=2 ^ a by omega)
 omega
theorem z15 (a:Nat):(2:Int) ^ (a+1)=2*2 ^ a:=by rw [Int.pow_succ]; omega
namespace Lad
theorem lad_ok {B C:Int} {w:Bool} {o l:Lad} (ho:o.Ok B) (hl:l.Ok C) (hB:1<=B) (hC:1<=C):(lad w o l).Ok (B+C):=by
 unfold lad
 cases w with
 | false=>exact bhd_ok ho hl hB hC
 | true =>
  rw [if_pos rfl]
  cases o with
  | nil =>
   cases l with
   | nil=>trivial
   | cons e m r=>exact hl.mono (by omega)
  | cons e m r =>
   cases l with
   | nil=>exact ho.mono (by omega)
   | cons e2 m2 r2 =>
    show (Lad.cons (bhd e (.cons e2 m2 r2)) 1 .nil).Ok _
    exact ⟨bhd_ok ho.1 hl hB hC,by decide,by omega,trivial,by simp [ps]⟩
theorem lad_parts (w:Bool) (o l:Lad):(lad w o l).parts<=o.parts+l.parts:=by
 unfold lad
 cases w with
 | false=>exact bhd_parts o l
 | true =>
  rw [if_pos rfl]
  cases o with
  | nil=>cases l <;> simp [spd,parts]
  | cons e m r =>
   cases l with
   | nil=>show (Lad.cons e m r).parts<=_; omega
   | cons e2 m2 r2 =>
    have:=bhd_parts e (.cons e2 m2 r2)
    show 1+(bhd e (.cons e2 m2 r2)).parts+0<=1+e.parts+r.parts+_
    omega
theorem lad_deep {w:Bool} {o l:Lad} {n:Nat} (ho:o.deep<=n) (hl:l.deep<=n):(lad w o l).deep<=n+1:=by
 unfold lad
 cases w with
 | false=>exact Nat.le_succ_of_le (bhd_deep ho hl)
 | true =>
  rw [if_pos rfl]
  cases o with
  | nil=>cases l with
   | nil=>exact Nat.zero_le _
   | cons e m r=>exact Nat.le_succ_of_le hl
  | cons e m r =>
   cases l with
   | nil=>exact Nat.le_succ_of_le ho
   | cons e2 m2 r2 =>
    have he:e.deep<=n:=by
     have:max (1+e.deep) r.deep<=n:=ho
     omega
    have:=bhd_deep he hl
    show max (1+(bhd e (.cons e2 m2 r2)).deep) 0<=n+1
    omega
theorem bths_ok {ls:List Lad} {B D:Int} (h:∀ l ∈ ls,l.Ok B) (hB:0<=B) (hD:B<=D) (hs:∀ x,(ls.map fun l=>S l x).sum < D):(bths ls).Ok D:=by
 have hd:(jn (dsc (ls.flatMap ps))).Pairwise (fun p q=>q.1.lt p.1=true):=jn_desc (dsc_keys _)
 show (ofPs (jn (dsc (ls.flatMap ps)))).Ok D
 rw [ok_ps]
 refine ⟨fun p hp=>?_,hd⟩
 have hnd:∀ (bs:List (Lad × Int)),bs.Pairwise (fun p q=>q.1.lt p.1=true)->∀ p ∈ bs,sumAt bs p.1=p.2:=by
  intro bs
  induction bs with
  | nil=>intro _ p hp; cases hp
  | cons q r ih =>
   intro hpw p hp
   obtain ⟨e,m⟩:=q
   obtain ⟨h1,h2⟩:=List.pairwise_cons.mp hpw
   rw [sumAt_cons]
   rcases List.mem_cons.mp hp with hp | hp
   ·subst hp
    rw [if_pos rfl,sumAt_zero fun q hq=>lt_ne (h1 q hq)]
    omega
   ·rw [if_neg (fun z=>lt_ne (h1 p hp) z.symm),ih h2 p hp]
    omega
 have e1:sumAt (jn (dsc (ls.flatMap ps))) p.1=p.2:=hnd _ hd p hp
 have e2:p.2=(ls.map fun l=>S l p.1).sum:=by
  rw [<- e1,<- Gr.S_bths]
  show _=sumAt (bths ls).ps p.1
  unfold bths
  rw [ps_ofPs]
 obtain ⟨q,hq,eq⟩:=z1l _ p hp
 have hq':=(dsc_perm _).mem_iff.mp hq
 obtain ⟨l,hl,hql⟩:=List.mem_flatMap.mp hq'
 have qo:=(ok_iff.mp (h l hl)).1 q hql
 have pos:∀ (ks:List Lad),(∀ l ∈ ks,l.Ok B)->0<=(ks.map fun l=>S l p.1).sum/\∀ l ∈ ks,S l p.1<=(ks.map fun l=>S l p.1).sum:=by
  intro ks
  induction ks with
  | nil=>intro _; exact ⟨Int.le_refl _,fun l hl=>nomatch hl⟩
  | cons k r ih =>
   intro hk
   obtain ⟨i1,i2⟩:=ih fun l hl=>hk l (mcm _ hl)
   have n1:=S_nonneg (hk k (mcs ..)) p.1
   rw [List.map_cons,List.sum_cons]
   refine ⟨by omega,fun l hl=>?_⟩
   rcases List.mem_cons.mp hl with rfl | hl
   ·omega
   ·have:=i2 l hl; omega
 have s1:=(pos ls h).2 l hl
 have s2:S l p.1=q.2:=by rw [<- eq]; exact S_mem (h l hl) hql
 have s3:=hs p.1
 refine ⟨?_,by omega,by omega⟩
 rw [<- eq]; exact qo.1.mono hD
theorem bths_parts (ls:List Lad):(bths ls).parts<=(ls.map parts).sum:=by
 have e:∀ ls:List Lad,tot (ls.flatMap ps)=(ls.map parts).sum:=by
  intro ls
  induction ls with
  | nil=>rfl
  | cons l r ih =>
   rw [List.flatMap_cons,tot_append,ih,List.map_cons,List.sum_cons]
   have:tot l.ps=l.parts:=by
    have:=parts_ofPs l.ps
    rw [ofPs_ps] at this; exact this.symm
   rw [this]
 show (ofPs (jn (dsc (ls.flatMap ps)))).parts<=_
 rw [parts_ofPs,<- e]
 exact Nat.le_trans (tot_jn _) (Nat.le_of_eq (tot_perm (dsc_perm _)))
theorem bths_deep {ls:List Lad} {n:Nat} (h:∀ l ∈ ls,l.deep<=n):(bths ls).deep<=n:=by
 refine deep_le' fun p hp=>?_
 unfold bths at hp
 rw [ps_ofPs] at hp
 obtain ⟨q,hq,e⟩:=z1l _ p hp
 obtain ⟨l,hl,hql⟩:=List.mem_flatMap.mp ((dsc_perm _).mem_iff.mp hq)
 have:=l.mem_deep q hql
 have:=h l hl
 rw [<- e]; omega
end Lad
namespace Gr
variable {b:Bk} {ρ σ:Str->Lad} {C:Int} {ns:List Str}
theorem rk_nil:rk b ρ .nil=.nil:=by
 show Lad.ofPs (jn (Lad.dsc []))=.nil
 have:Lad.dsc []=[]:=List.Perm.eq_nil (Lad.dsc_perm [])
 rw [this]; rfl
theorem rkT_congr:∀ {g:Gr},(∀ x ∈ g.within,ρ x.1.1=σ x.1.1)->rkT b ρ g=rkT b σ g
 | .nil,_=>rfl
 | .cons k g m r,h=>by
  have e1:=h ((k,g),m) (mcs ..)
  have e2:=rkT_congr (g:=g) fun x hx=>h x (mcm _ (mal _ hx))
  have e3:=rkT_congr (g:=r) fun x hx=>h x (mcm _ (mar _ hx))
  show Lad.tms (lad (b.wide k) (ρ k) (Lad.bths (rkT b ρ g))) m::rkT b ρ r=_::rkT b σ r
  rw [e2,e3,show ρ k=σ k from e1]
theorem rk_congr {g:Gr} (h:∀ x ∈ g.within,ρ x.1.1=σ x.1.1):rk b ρ g=rk b σ g:=by unfold rk; rw [rkT_congr h]
theorem rk_size {P D:Nat} (hk:∀ n ∈ ns,(ρ n).parts<=P/\(ρ n).deep<=D):∀ {g:Gr},Named ns g->((rkT b ρ g).map Lad.parts).sum<=P*g.parts/\∀ l ∈ rkT b ρ g,l.deep<=D+g.deep
 | .nil,_=>And.intro (Nat.zero_le _) (fun l hl=>nomatch hl)
 | .cons k g m r,h=>by
  have hkn:k ∈ ns:=h ((k,g),m) (mcs ..)
  obtain ⟨g1,g2⟩:=rk_size hk (g:=g) fun x hx=>h x (mcm _ (mal _ hx))
  obtain ⟨r1,r2⟩:=rk_size hk (g:=r) fun x hx=>h x (mcm _ (mar _ hx))
  obtain ⟨k1,k2⟩:=hk k hkn
  have ip:(Lad.bths (rkT b ρ g)).parts<=P*g.parts:=Nat.le_trans (Lad.bths_parts _) g1
  have idp:(Lad.bths (rkT b ρ g)).deep<=D+g.deep:=Lad.bths_deep g2
  have lp:=Lad.lad_parts (b.wide k) (ρ k) (Lad.bths (rkT b ρ g))
  have tp:=Lad.tms_parts (lad (b.wide k) (ρ k) (Lad.bths (rkT b ρ g))) m
  have ld:=Lad.lad_deep (w:=b.wide k) (o:=ρ k) (l:=Lad.bths (rkT b ρ g)) (n:=D+g.deep) (by omega) idp
  have e1:(Gr.cons k g m r).parts=1+g.parts+r.parts:=rfl
  have e2:(Gr.cons k g m r).deep=max (1+g.deep) r.deep:=rfl
  refine ⟨?_,fun l hl=>?_⟩
  ·show (Lad.tms (lad (b.wide k) (ρ k) (Lad.bths (rkT b ρ g))) m).parts+((rkT b ρ r).map Lad.parts).sum<=_
   rw [e1,Nat.mul_add,Nat.mul_add,Nat.mul_one]
   omega
  ·rw [e2]
   rcases List.mem_cons.mp hl with rfl | hl
   ·have:=Lad.tms_deep (n:=D+g.deep+1) m ld
    omega
   ·have:=r2 l hl; omega
theorem rk_nums {x:Nat} (hk:∀ n ∈ ns,(ρ n).Ok (2 ^ x)):∀ {g:Gr},Named ns g->g.Ok (2 ^ 29)->(∀ l ∈ rkT b ρ g,l.Ok (2 ^ (x+31*g.parts)))/\∀ y,((rkT b ρ g).map fun l=>Lad.S l y).sum < 2 ^ (x+31*g.parts)
 | .nil,_,_=>And.intro (fun l hl=>nomatch hl) (fun y=>by
  show (0:Int) < _
  have:=z0b (x+31*Gr.nil.parts); omega)
 | .cons k g m r,h,ho=>by
  obtain ⟨_,hg,hm1,hm2,hr,_⟩:=ho
  have hkn:k ∈ ns:=h ((k,g),m) (mcs ..)
  obtain ⟨g1,g2⟩:=rk_nums hk (g:=g) (fun x hx=>h x (mcm _ (mal _ hx))) hg
  obtain ⟨r1,r2⟩:=rk_nums hk (g:=r) (fun x hx=>h x (mcm _ (mar _ hx))) hr
  have e1:(Gr.cons k g m r).parts=1+g.parts+r.parts:=rfl
  have p0:=z0b (x+31*g.parts)
  have px:=z0b x
  have io:(Lad.bths (rkT b ρ g)).Ok (2 ^ (x+31*g.parts)):=Lad.bths_ok g1 (by omega) (Int.le_refl _) g2
  have lo:=Lad.lad_ok (w:=b.wide k) (hk k hkn) io px p0
  have m1:=z0g (show x<=x+31*g.parts by omega)
  have lo2:(lad (b.wide k) (ρ k) (Lad.bths (rkT b ρ g))).Ok (2 ^ (x+31*g.parts+1)):=lo.mono (by rw [z15]; omega)
  have to:=Lad.tms_ok lo2 (show 0<=m by omega)
  have q0:=z0b (x+31*g.parts+1)
  have hb:2 ^ (x+31*g.parts+1)*m+2 ^ (x+31*g.parts+1)<=2 ^ (x+31*g.parts+30):=by
   have:(2:Int) ^ (x+31*g.parts+30)=2 ^ (x+31*g.parts+1)*2 ^ 29:=by rw [<- Int.pow_add]
   rw [this]
   have h2:(2:Int) ^ (x+31*g.parts+1)*(m+1)<=2 ^ (x+31*g.parts+1)*2 ^ 29:=Int.mul_le_mul_of_nonneg_left (by omega) (by omega)
   rw [Int.mul_add,Int.mul_one] at h2
   exact h2
  have to2:=to.mono hb
  have w1:=z0g (show x+31*g.parts+30<=x+31*(1+g.parts+r.parts)-1 by omega)
  have w2:=z0g (show x+31*r.parts<=x+31*(1+g.parts+r.parts)-1 by omega)
  have w3:=z15 (x+31*(1+g.parts+r.parts)-1)
  rw [show x+31*(1+g.parts+r.parts)-1+1=x+31*(1+g.parts+r.parts) by omega] at w3
  have w0:=z0b (x+31*(1+g.parts+r.parts)-1)
  rw [e1]
  refine ⟨fun l hl=>?_,fun y=>?_⟩
  ·rcases List.mem_cons.mp hl with rfl | hl
   ·exact to2.mono (by omega)
   ·exact (r1 l hl).mono (by omega)
  ·show Lad.S (Lad.tms (lad (b.wide k) (ρ k) (Lad.bths (rkT b ρ g))) m) y+((rkT b ρ r).map fun l=>Lad.S l y).sum < _
   have s2:=r2 y
   have s3:Lad.S (Lad.tms (lad (b.wide k) (ρ k) (Lad.bths (rkT b ρ g))) m) y < 2 ^ (x+31*g.parts+30)\/Lad.S (Lad.tms (lad (b.wide k) (ρ k) (Lad.bths (rkT b ρ g))) m) y<=0:=by
    rcases Lad.S_cases to2 y with ⟨h1,_⟩ | ⟨mm,_,h2,_,h4⟩
    ·right; omega
    ·left; omega
   have w4:=z0b (x+31*g.parts+30)
   rcases s3 with s3 | s3 <;> omega
end Gr
namespace Gr
variable {b:Bk} {ρ:Str->Lad} {ns:List Str}
theorem rk_fit {P D x:Nat} (hk:∀ n ∈ ns,n ∈ b.names/\ρ n ≠ .nil/\(ρ n).parts<=P/\(ρ n).deep<=D/\(ρ n).Ok (2 ^ x)) (hP:1<=P):∀ {g:Gr},Named ns g->g.Ok (2 ^ 29)->P*g.parts<=390->D+g.deep<=24->x+31*g.parts<=2000->Fit b ρ ns g
 | .nil,_,_,_,_,_=>trivial
 | .cons k g m r,h,ho,hp,hd,hx=>by
  have hP':∀ n ∈ ns,(ρ n).parts<=P/\(ρ n).deep<=D:=fun n hn=>⟨(hk n hn).2.2.1,(hk n hn).2.2.2.1⟩
  have hX':∀ n ∈ ns,(ρ n).Ok (2 ^ x):=fun n hn=>(hk n hn).2.2.2.2
  have nm:2 ^ 29<=(2:Int) ^ 2000:=z0g (by decide)
  obtain ⟨hkn,hnn⟩:k ∈ ns/\(Named ns g/\Named ns r):=⟨h ((k,g),m) (mcs ..),fun x hx=>h x (mcm _ (mal _ hx)),fun x hx=>h x (mcm _ (mar _ hx))⟩
  obtain ⟨ok0,hg,hm1,hm2,hr,hrise⟩:=ho
  have ho:(Gr.cons k g m r).Ok (2 ^ 29):=⟨ok0,hg,hm1,hm2,hr,hrise⟩
  have e1:(Gr.cons k g m r).parts=1+g.parts+r.parts:=rfl
  have e2:(Gr.cons k g m r).deep=max (1+g.deep) r.deep:=rfl
  rw [e1,Nat.mul_add,Nat.mul_add,Nat.mul_one] at hp
  rw [e1] at hx
  obtain ⟨s1,s2⟩:=rk_size hP' h
  obtain ⟨g1,g2⟩:=rk_size hP' hnn.1
  obtain ⟨n1,n2⟩:=rk_nums hX' hnn.1 hg
  have p0:=z0b (x+31*g.parts)
  have px:=z0b x
  have io:(Lad.bths (rkT b ρ g)).Ok (2 ^ (x+31*g.parts)):=Lad.bths_ok n1 (by omega) (Int.le_refl _) n2
  have lo:=(Lad.lad_ok (w:=b.wide k) (hX' k hkn) io px p0)
  have m1:=z0g (show x<=x+31*g.parts by omega)
  have m2:=z0g (show x+31*g.parts+1<=2000 by omega)
  have m3:=z15 (x+31*g.parts)
  obtain ⟨kb,kne,kp,kd,kx⟩:=hk k hkn
  have num:∀ {l:Lad},l.Ok (2 ^ 2000)->∀ p ∈ l.ps,0<=p.2/\p.2 < 2 ^ 2000:=fun hl p hp=>by
   have:=(Lad.ok_iff.mp hl).1 p hp
   exact ⟨by omega,this.2.2⟩
  have ip:(Lad.bths (rkT b ρ g)).parts<=P*g.parts:=Nat.le_trans (Lad.bths_parts _) g1
  have idp:(Lad.bths (rkT b ρ g)).deep<=D+g.deep:=Lad.bths_deep g2
  have lp:=Lad.lad_parts (b.wide k) (ρ k) (Lad.bths (rkT b ρ g))
  have ld:=Lad.lad_deep (w:=b.wide k) (o:=ρ k) (l:=Lad.bths (rkT b ρ g)) (n:=D+g.deep) (by omega) idp
  refine ⟨⟨hkn,kb,kne,⟨by omega,by omega,num (kx.mono (by omega))⟩,⟨by show (Lad.bths (rkT b ρ g)).deep<=25; omega,by show (Lad.bths (rkT b ρ g)).parts<=900; omega,num (io.mono (by omega))⟩,⟨by show (lad (b.wide k) (ρ k) (Lad.bths (rkT b ρ g))).deep<=25; omega,by show (lad (b.wide k) (ρ k) (Lad.bths (rkT b ρ g))).parts<=900; omega,num (lo.mono (by omega))⟩,by omega,by omega,?_⟩,rk_fit hk hP hnn.1 hg (by omega) (by omega) (by omega),rk_fit hk hP hnn.2 hr (by omega) (by omega) (by omega)⟩
  have key:∀ ls:List Lad,(ls.flatMap Lad.ps).length<=(ls.map Lad.parts).sum:=by
   intro ls
   induction ls with
   | nil=>exact Nat.le_refl _
   | cons l r ih =>
    rw [List.flatMap_cons,List.length_append,List.map_cons,List.sum_cons,Lad.ps_length]
    have:=l.len_parts
    omega
  have:=key (rkT b ρ (.cons k g m r))
  rw [e1,Nat.mul_add,Nat.mul_add,Nat.mul_one] at s1
  exact Nat.le_trans (Nat.le_trans this s1) (by omega)
end Gr
theorem z0w {rs:List Ru} {r:Ru} (hr:r ∈ rs) {x:Tr × Int} (hx:x ∈ Ru.within r):x.1.1 ∈ ledR rs:=List.mem_flatMap.mpr ⟨r,hr,List.mem_map.mpr ⟨x,hx,rfl⟩⟩
theorem z8p {b:Bk} {ρ σ:Str->Lad} {r:Ru} (h:∀ x ∈ Ru.within r,ρ x.1.1=σ x.1.1):clm b ρ r=clm b σ r:=by
 unfold clm
 rw [Gr.rk_congr fun x hx=>h x (mal _ hx),Gr.rk_congr fun x hx=>h x (mar _ hx)]
def Bk.rules (b:Bk) (n:Str):List Ru:=match b.get n with
 | some k=>k.rs
 | none=>[]
def z39 (b:Bk) (k n:Str):Prop:=k ∈ adj b n/\EndK b n
theorem zct (b:Bk):WellFounded (z39 b):=by
 have h1:∀ n,EndK b n->Acc (z39 b) n:=fun n h=>by
  induction h with
  | mk _ ih=>exact ⟨_,fun y hy=>ih y hy.1⟩
 exact ⟨fun n=>⟨n,fun y hy=>h1 y (hy.2.next hy.1)⟩⟩
open Classical in
noncomputable def ownF (b:Bk) (n:Str) (rec:∀ k,z39 b k n->Lad):Lad:=Lad.maxL Lad.uno ((b.rules n).map (clm b fun k=>if h:z39 b k n then rec k h else Lad.uno))
noncomputable def z06 (b:Bk):Str->Lad:=(zct b).fix (ownF b)
theorem z7k {b:Bk} (ok:b.Ok) {k:Kd} (hk:k ∈ b) (he:EndK b k.n):z06 b k.n=Lad.maxL Lad.uno (k.rs.map (clm b (z06 b))):=by
 unfold z06
 rw [WellFounded.fix_eq]
 unfold ownF
 have er:b.rules k.n=k.rs:=by unfold Bk.rules; rw [Bk.get_self ok.nd hk]
 rw [er]
 congr 1
 refine List.map_congr_left fun r hr=>z8p fun x hx=>?_
 have hl:z39 b x.1.1 k.n:=⟨by rw [z1n ok hk]; exact z0w hr hx,he⟩
 rw [dif_pos hl]
theorem Gr.Fit.mono {b:Bk} {ρ:Str->Lad} {ns ms:List Str} (h:∀ n ∈ ns,n ∈ ms):∀ {g:Gr},Gr.Fit b ρ ns g->Gr.Fit b ρ ms g
 | .nil,_=>trivial
 | .cons k g m r,hf=>by
  obtain ⟨⟨h1,h2,h3,h4,h5,h6,h7,h8,h9⟩,hg,hr⟩:=hf
  exact ⟨⟨h _ h1,h2,h3,h4,h5,h6,h7,h8,h9⟩,Gr.Fit.mono h hg,Gr.Fit.mono h hr⟩
theorem z4y {α:Type} {p q:α->Bool}:∀ {l:List α},(∀ x ∈ l,p x=true->q x=true)->(∃ x ∈ l,q x=true/\p x=false)->(l.filter p).length < (l.filter q).length
 | [],_,⟨x,hx,_⟩=>nomatch hx
 | a::r,h,⟨x,hx,hq,hp⟩=>by
  have hr:∀ x ∈ r,p x=true->q x=true:=fun y hy=>h y (mcm _ hy)
  have le:∀ l:List α,(∀ x ∈ l,p x=true->q x=true)->(l.filter p).length<=(l.filter q).length:=by
   intro l
   induction l with
   | nil=>intro _; exact Nat.le_refl _
   | cons c s ih =>
    intro hc
    have:=ih fun y hy=>hc y (mcm _ hy)
    cases hpc:p c with
    | true =>
     rw [List.filter_cons_of_pos hpc,List.filter_cons_of_pos (hc c (mcs ..) hpc)]
     simpa using this
    | false =>
     rw [List.filter_cons_of_neg (by simp [hpc])]
     cases hqc:q c with
     | true=>rw [List.filter_cons_of_pos hqc,List.length_cons]; omega
     | false=>rw [List.filter_cons_of_neg (by simp [hqc])]; exact this
  rcases List.mem_cons.mp hx with rfl | hx
  ·rw [List.filter_cons_of_neg (by simp [hp]),List.filter_cons_of_pos hq,List.length_cons]
   have:=le r hr
   omega
  ·have ih:=z4y hr ⟨x,hx,hq,hp⟩
   cases hpc:p a with
   | true =>
    rw [List.filter_cons_of_pos hpc,List.filter_cons_of_pos (h a (mcs ..) hpc)]
    simpa using ih
   | false =>
    rw [List.filter_cons_of_neg (by simp [hpc])]
    cases hqc:q a with
    | true=>rw [List.filter_cons_of_pos hqc,List.length_cons]; omega
    | false=>rw [List.filter_cons_of_neg (by simp [hqc])]; exact ih
open Classical in
noncomputable def cntR (b:Bk) (n:Str):Nat:=(b.names.filter fun k=>decide (Rch b n k)).length
theorem za7 {b:Bk} (ok:b.Ok) {n k:Str} (he:EndK b n) (hk:k ∈ adj b n):cntR b k < cntR b n:=by
 refine z4y (fun x _ hx=>?_) ⟨k,z24 ok hk,?_,?_⟩
 ·simp only [decide_eq_true_eq] at hx ⊢
  exact Rch.cons hk hx
 ·simp only [decide_eq_true_eq]; exact .one hk
 ·simp only [decide_eq_false_iff_not]; exact (he.next hk).noring
theorem zda {b:Bk} {n:Str} (he:EndK b n) (hn:n ∈ b.names):cntR b n < b.length:=by
 have h:=z4y (p:=fun k=>@decide (Rch b n k) (Classical.propDecidable _)) (q:=fun _=>true) (l:=b.names) (fun _ _ _=>rfl) ⟨n,hn,rfl,by simp only [decide_eq_false_iff_not]; exact he.noring⟩
 have e:(b.names.filter fun _=>true).length=b.length:=by rw [List.filter_eq_self.mpr (fun _ _=>rfl),List.length_map]
 rw [e] at h
 exact h
def Pm (m:Nat):Nat->Nat
 | 0=>2
 | c+1=>m*Pm m c+2
theorem zbx (m:Nat):∀ c,2<=Pm m c
 | 0=>Nat.le_refl _
 | c+1=>Nat.le_add_left _ _
structure Bnd (m c:Nat) (l:Lad):Prop where
 ne:l ≠ .nil
 parts:l.parts<=Pm m c
 deep:l.deep<=2+m*c
 ok:l.Ok (2 ^ (2+(31*m+2)*c))
theorem z8h {b:Bk} {ρ:Str->Lad} {ns:List Str} {P D x m:Nat} {r:Ru} (hk:∀ n ∈ ns,(ρ n).parts<=P/\(ρ n).deep<=D) (hx:∀ n ∈ ns,(ρ n).Ok (2 ^ x)) (h1:Gr.Named ns r.1) (h2:Gr.Named ns r.2) (o1:r.1.Ok (2 ^ 29)) (o2:r.2.Ok (2 ^ 29)) (hs:r.1.parts+r.2.parts<=m) (hD:2<=D) :
  (clm b ρ r).parts<=m*P+2/\(clm b ρ r).deep<=D+m/\(clm b ρ r).Ok (2 ^ (x+31*m+2))/\(Gr.rk b ρ r.1).deep<=D+m/\(Gr.rk b ρ r.2).deep<=D+m/\(Gr.rk b ρ r.1).parts<=m*P/\(Gr.rk b ρ r.2).parts<=m*P:=by
 obtain ⟨a1,a2⟩:=Gr.rk_size (b:=b) hk h1
 obtain ⟨b1,b2⟩:=Gr.rk_size (b:=b) hk h2
 obtain ⟨c1,c2⟩:=Gr.rk_nums (b:=b) hx h1 o1
 obtain ⟨d1,d2⟩:=Gr.rk_nums (b:=b) hx h2 o2
 have w1:=z0e r.1
 have w2:=z0e r.2
 have p1:(Gr.rk b ρ r.1).parts<=P*r.1.parts:=Nat.le_trans (Lad.bths_parts _) a1
 have p2:(Gr.rk b ρ r.2).parts<=P*r.2.parts:=Nat.le_trans (Lad.bths_parts _) b1
 have q1:(Gr.rk b ρ r.1).deep<=D+r.1.deep:=Lad.bths_deep a2
 have q2:(Gr.rk b ρ r.2).deep<=D+r.2.deep:=Lad.bths_deep b2
 have e1:=z0b (x+31*r.1.parts)
 have e2:=z0b (x+31*r.2.parts)
 have k1:(Gr.rk b ρ r.1).Ok (2 ^ (x+31*r.1.parts)):=Lad.bths_ok c1 (by omega) (Int.le_refl _) c2
 have k2:(Gr.rk b ρ r.2).Ok (2 ^ (x+31*r.2.parts)):=Lad.bths_ok d1 (by omega) (Int.le_refl _) d2
 have ko:=Lad.abv_ok k1 k2 e1 e2
 have hm:P*r.1.parts+P*r.2.parts<=m*P:=by
  rw [<- Nat.mul_add,Nat.mul_comm m P]
  exact Nat.mul_le_mul_left _ hs
 have ap:=Lad.abv_parts (Gr.rk b ρ r.1) (Gr.rk b ρ r.2)
 have ad:=Lad.abv_deep (n:=D+m) (l:=Gr.rk b ρ r.1) (k:=Gr.rk b ρ r.2) (by omega) (by omega) (by omega)
 have m1:=z0g (show x+31*r.1.parts<=x+31*m by omega)
 have m2:=z0g (show x+31*r.2.parts<=x+31*m by omega)
 have m3:=z15 (x+31*m)
 have m4:(2:Int) ^ (x+31*m+2)=2*2 ^ (x+31*m+1):=z15 (x+31*m+1)
 have m5:=z0b (x+31*m)
 exact ⟨by unfold clm; omega,ad,ko.mono (by omega),by omega,by omega,by omega,by omega⟩
theorem zag {b:Bk} (ok:b.Ok) {m:Nat} (hm:∀ k ∈ b,∀ r ∈ k.rs,r.1.Ok (2 ^ 29)/\r.2.Ok (2 ^ 29)/\r.1.parts+r.2.parts<=m):∀ (c:Nat) (k:Kd),k ∈ b->EndK b k.n->cntR b k.n<=c->Bnd m c (z06 b k.n)
 | c,k,hk,he,hc=>by
  have hadj:=z1n ok hk
  have nm:∀ r ∈ k.rs,Gr.Named (adj b k.n) r.1/\Gr.Named (adj b k.n) r.2:=fun r hr=>⟨fun x hx=>by rw [hadj]; exact z0w hr (mal _ hx),fun x hx=>by rw [hadj]; exact z0w hr (mar _ hx)⟩
  have eq:=z7k ok hk he
  have ne:z06 b k.n ≠ .nil:=fun z=>by
   have:=Lad.maxL_ge (k.rs.map (clm b (z06 b))) Lad.uno Lad.uno (mcs ..)
   rw [<- eq,z] at this
   rw [Lad.lt_nil_cons] at this; cases this
  have p2:=zbx m c
  have x0:(2:Int)<=2 ^ (2+(31*m+2)*c):=by
   have:=z0g (show 1<=2+(31*m+2)*c by omega)
   exact this
  have ofClm:(∀ r ∈ k.rs,(clm b (z06 b) r).parts<=Pm m c/\(clm b (z06 b) r).deep<=2+m*c/\(clm b (z06 b) r).Ok (2 ^ (2+(31*m+2)*c)))->Bnd m c (z06 b k.n):=fun h=>by
   refine ⟨ne,?_,?_,?_⟩ <;> rw [eq] <;> rcases List.mem_cons.mp (Lad.maxL_mem (k.rs.map (clm b (z06 b))) Lad.uno) with e | e
   ·rw [e]; show 1<=_; omega
   ·obtain ⟨r,hr,e⟩:=List.mem_map.mp e
    rw [<- e]; exact (h r hr).1
   ·rw [e]; show 1<=_; omega
   ·obtain ⟨r,hr,e⟩:=List.mem_map.mp e
    rw [<- e]; exact (h r hr).2.1
   ·rw [e]; exact Lad.uno_ok.mono x0
   ·obtain ⟨r,hr,e⟩:=List.mem_map.mp e
    rw [<- e]; exact (h r hr).2.2
  cases c with
  | zero =>
   have h0:adj b k.n=[]:=by
    cases ha:adj b k.n with
    | nil=>rfl
    | cons y ys =>
     have:=za7 ok he (k:=y) (by rw [ha]; exact mcs ..)
     omega
   refine ofClm fun r hr=>?_
   obtain ⟨n1,n2⟩:=nm r hr
   rw [h0] at n1 n2
   have nil_of:∀ g:Gr,Gr.Named [] g->g=.nil:=fun g h=>by
    cases g with
    | nil=>rfl
    | cons k g m r=>exact absurd (h ((k,g),m) (mcs ..)) (by simp)
   have e:r=(.nil,.nil):=Prod.ext (nil_of _ n1) (nil_of _ n2)
   rw [e,z9h]
   exact ⟨by show 1<=2; decide,by show 1<=_; omega,Lad.uno_ok.mono x0⟩
  | succ c =>
   have hch:∀ n ∈ adj b k.n,Bnd m c (z06 b n):=fun n hn=>by
    have hlt:=za7 ok he hn
    obtain ⟨kd,eg⟩:=Bk.get_of (z24 ok hn)
    obtain ⟨hkd,rfl⟩:=Bk.get_some eg
    exact zag ok hm c kd hkd (he.next hn) (by omega)
   refine ofClm fun r hr=>?_
   obtain ⟨n1,n2⟩:=nm r hr
   obtain ⟨o1,o2,hs⟩:=hm k hk r hr
   obtain ⟨c1,c2,c3,_⟩:=z8h (b:=b) (ρ:=z06 b) (P:=Pm m c) (D:=2+m*c) (x:=2+(31*m+2)*c) (fun n hn=>⟨(hch n hn).parts,(hch n hn).deep⟩) (fun n hn=>(hch n hn).ok) n1 n2 o1 o2 hs (by omega)
   refine ⟨c1,by rw [Nat.mul_succ]; omega,?_⟩
   have:2+(31*m+2)*(c+1)=2+(31*m+2)*c+31*m+2:=by rw [Nat.mul_succ]; omega
   rw [this]; exact c3
theorem z9m {b:Bk} (ok:b.Ok) {m:Nat} (hm:∀ k ∈ b,∀ r ∈ k.rs,r.1.Ok (2 ^ 29)/\r.2.Ok (2 ^ 29)/\r.1.parts+r.2.parts<=m) (hP:m*Pm m (b.length-1)<=390) (hD:2+m*(b.length-1)+m<=24) (hX:2+(31*m+2)*(b.length-1)+31*m<=2000):OwnR b (z06 b)/\∀ n ∈ b.names,EndK b n->Bnd m (b.length-1) (z06 b n):=by
 have hb:∀ n ∈ b.names,EndK b n->Bnd m (b.length-1) (z06 b n):=fun n hn he=>by
  obtain ⟨kd,eg⟩:=Bk.get_of hn
  obtain ⟨hkd,rfl⟩:=Bk.get_some eg
  have:=zda he hn
  exact zag ok hm _ kd hkd he (by omega)
 have hch:∀ k ∈ b,EndK b k.n->∀ n ∈ adj b k.n,Bnd m (b.length-1) (z06 b n):=fun k hk he n hn=>hb n (z24 ok hn) (he.next hn)
 have p2:=zbx m (b.length-1)
 refine ⟨⟨fun k hk he=>z7k ok hk he,fun k hk he ns hns r hr=>?_,fun k hk he r hr=>?_⟩,hb⟩
 ·have hadj:=z1n ok hk
  have n1:Gr.Named (adj b k.n) r.1:=fun x hx=>by rw [hadj]; exact z0w hr (mal _ hx)
  have n2:Gr.Named (adj b k.n) r.2:=fun x hx=>by rw [hadj]; exact z0w hr (mar _ hx)
  obtain ⟨o1,o2,hs⟩:=hm k hk r hr
  have hc:=hch k hk he
  obtain ⟨_,_,_,d1,d2,q1,q2⟩:=z8h (b:=b) (ρ:=z06 b) (P:=Pm m (b.length-1)) (D:=2+m*(b.length-1)) (x:=2+(31*m+2)*(b.length-1)) (fun n hn=>⟨(hc n hn).parts,(hc n hn).deep⟩) (fun n hn=>(hc n hn).ok) n1 n2 o1 o2 hs (by omega)
  have w1:=z0e r.1
  have w2:=z0e r.2
  have hP1:Pm m (b.length-1)*r.1.parts<=390:=Nat.le_trans (Nat.mul_le_mul_left _ (show r.1.parts<=m by omega)) (by rw [Nat.mul_comm]; exact hP)
  have hP2:Pm m (b.length-1)*r.2.parts<=390:=Nat.le_trans (Nat.mul_le_mul_left _ (show r.2.parts<=m by omega)) (by rw [Nat.mul_comm]; exact hP)
  have hk':∀ n ∈ adj b k.n,n ∈ b.names/\z06 b n ≠ .nil/\(z06 b n).parts<=Pm m (b.length-1)/\(z06 b n).deep<=2+m*(b.length-1)/\(z06 b n).Ok (2 ^ (2+(31*m+2)*(b.length-1))):=fun n hn=>⟨z24 ok hn,(hc n hn).ne,(hc n hn).parts,(hc n hn).deep,(hc n hn).ok⟩
  exact ⟨(Gr.rk_fit hk' (by omega) n1 o1 hP1 (by omega) (by omega)).mono hns,(Gr.rk_fit hk' (by omega) n2 o2 hP2 (by omega) (by omega)).mono hns,by omega,by omega,by omega,by omega⟩
 ·have hadj:=z1n ok hk
  have n1:Gr.Named (adj b k.n) r.1:=fun x hx=>by rw [hadj]; exact z0w hr (mal _ hx)
  have n2:Gr.Named (adj b k.n) r.2:=fun x hx=>by rw [hadj]; exact z0w hr (mar _ hx)
  obtain ⟨o1,o2,hs⟩:=hm k hk r hr
  have hc:=hch k hk he
  obtain ⟨_,d0,_⟩:=z8h (b:=b) (ρ:=z06 b) (P:=Pm m (b.length-1)) (D:=2+m*(b.length-1)) (x:=2+(31*m+2)*(b.length-1)) (fun n hn=>⟨(hc n hn).parts,(hc n hn).deep⟩) (fun n hn=>(hc n hn).ok) n1 n2 o1 o2 hs (by omega)
  omega
theorem zcc {b:Bk} (ok:b.Ok) {ks:List Str} {rounds:Bool} (h:Kinds40 ks rounds b) (hl:ks.length<=6):OwnR b (z06 b)/\∀ n ∈ b.names,EndK b n->Bnd (if ks.length > 3 then 2 else 3) (b.length-1) (z06 b n):=by
 have bl:b.length=ks.length:=by have:=h.names.length_eq; rwa [List.length_map] at this
 have hm:∀ k ∈ b,∀ r ∈ k.rs,r.1.Ok (2 ^ 29)/\r.2.Ok (2 ^ 29)/\r.1.parts+r.2.parts<=if ks.length > 3 then 2 else 3:=fun k hk r hr=>⟨(h.nums k hk r hr).1.mono (by decide),(h.nums k hk r hr).2.mono (by decide),h.size k hk r hr⟩
 by_cases h3:ks.length > 3
 ·rw [if_pos h3] at hm ⊢
  have hb:b.length=4\/b.length=5\/b.length=6:=by omega
  refine z9m ok hm ?_ ?_ ?_ <;> rcases hb with e | e | e <;> rw [e] <;> decide
 ·rw [if_neg h3] at hm ⊢
  have hb:b.length=0\/b.length=1\/b.length=2\/b.length=3:=by omega
  refine z9m ok hm ?_ ?_ ?_ <;> rcases hb with e | e | e | e <;> rw [e] <;> decide
def Gr.ins:Gr->List Tr
 | .nil=>[]
 | .cons k g m r=>(k,g)::(g.ins++r.ins)
theorem Gr.ins_within:∀ g:Gr,g.ins=g.within.map (·.1)
 | .nil=>rfl
 | .cons k g m r=>by
  show (k,g)::(g.ins++r.ins)=(k,g)::(g.within++r.within).map (·.1)
  rw [Gr.ins_within g,Gr.ins_within r,List.map_append]
def z1r (K:PySem.W.Frag) (n:Nat):Sp:=fun vs H Q _=>∃ (v:V) (l:Lad) (B:Int),vs=[v]/\LA K H v l/\l.Ok B/\l.deep < n/\l.deep<=29/\∀ H',SB [] H H'->Q (.bl true) H'
def z35 (K:PySem.W.Frag) (n:Nat):Sp:=fun vs H Q _=>∃ (v:V) (g:Gr),vs=[v]/\GA K H v g/\g.deep < n/\g.parts<=1000/\∀ (D:Addr) (us:List V) (H':Hp),SB [] H H'->H D=none->H' D=some (.lst us)->Bears K H' Gr.tEnc us g.ins->Q (.ref D) H'
theorem z4t {P:Program} {w:World} {K:PySem.W.Frag} {mg:Str->Option Value} {base:Heap} {f:Addr} {fd:FuncData} {ps:List Str} {k:Nat}:FnOk P w K mg base CX0 k f fd ps (z1r K 0):=z0o fun vs H Q E ⟨_,_,_,_,_,_,h,_⟩=>by omega
theorem Gr.ins_ps:∀ g:Gr,g.ins=g.ps.flatMap fun p=>p.1::p.1.2.ins
 | .nil=>rfl
 | .cons k g m r=>by
  show (k,g)::(g.ins++r.ins)=((k,g)::g.ins)++r.ps.flatMap _
  rw [Gr.ins_ps r]; rfl
theorem Gr.ins_len (g:Gr):g.ins.length=g.parts:=by rw [Gr.ins_within,List.length_map,Gr.within_length]
structure Own40 (b:Bk) (ρ:Str->Lad) (P:Nat):Prop where
 own:OwnR b ρ
 bnd:∃ x D:Nat,D<=12/\x<=330/\∀ n ∈ b.names,EndK b n->ρ n ≠ .nil/\(ρ n).parts<=P/\(ρ n).deep<=D/\(ρ n).Ok (2 ^ x)
 ru:∀ k ∈ b,∀ r ∈ k.rs,r.1.Ok (2 ^ 29)/\r.2.Ok (2 ^ 29)
theorem Own40.of {b:Bk} (ok:b.Ok) {ks:List Str} {rounds:Bool} (h:Kinds40 ks rounds b) (hl:ks.length<=6):Own40 b (z06 b) (if ks.length<=5 then 62 else 126):=by
 obtain ⟨o1,o2⟩:=zcc ok h hl
 have bl:b.length=ks.length:=by have:=h.names.length_eq; rwa [List.length_map] at this
 have b1:=ok.pos
 have ru:∀ k ∈ b,∀ r ∈ k.rs,r.1.Ok (2 ^ 29)/\r.2.Ok (2 ^ 29):=fun k hk r hr=>⟨(h.nums k hk r hr).1.mono (by decide),(h.nums k hk r hr).2.mono (by decide)⟩
 by_cases h3:ks.length > 3
 ·rw [if_pos h3] at o2
  refine ⟨o1,⟨2+(31*2+2)*(b.length-1),2+2*(b.length-1),by omega,by omega,fun n hn he=>⟨(o2 n hn he).ne,Nat.le_trans (o2 n hn he).parts ?_,(o2 n hn he).deep,(o2 n hn he).ok⟩⟩,ru⟩
  have hb:b.length=4\/b.length=5\/b.length=6:=by omega
  rw [<- bl]
  rcases hb with e | e | e <;> rw [e] <;> decide
 ·rw [if_neg h3] at o2
  refine ⟨o1,⟨2+(31*3+2)*(b.length-1),2+3*(b.length-1),by omega,by omega,fun n hn he=>⟨(o2 n hn he).ne,Nat.le_trans (o2 n hn he).parts ?_,(o2 n hn he).deep,(o2 n hn he).ok⟩⟩,ru⟩
  have hb:b.length=1\/b.length=2\/b.length=3:=by omega
  rw [<- bl]
  rcases hb with e | e | e <;> rw [e] <;> decide
theorem Own40.of5 {b:Bk} (ok:b.Ok) {ks:List Str} {rounds:Bool} (h:Kinds40 ks rounds b) (hl:ks.length<=5):Own40 b (z06 b) 62:=by
 have:=Own40.of ok h (show ks.length<=6 by omega)
 rwa [if_pos hl] at this
theorem zcb {b:Bk} {ρ:Str->Lad} {g k:Gr} {B C D:Int} (hg:(Gr.rk b ρ g).Ok B) (hk:(Gr.rk b ρ k).Ok C) (hB:1<=B) (hC:1<=C) (hj:(Gr.rk b ρ (Gr.tidy (g.ps++k.ps))).Ok D):(Gr.rk b ρ (Gr.tidy (g.ps++k.ps)))=(Gr.rk b ρ g).bth (Gr.rk b ρ k):=by
 refine Lad.ext hj (Lad.bth_ok hg hk hB hC) fun x=>?_
 rw [Lad.S_bth,Gr.S_rk,Gr.S_rk,Gr.S_rk,<- z32]
 refine z3r _ _ _ _ (Nat.le_refl _) fun t=>?_
 unfold Gr.tidy
 rw [Gr.ps_ofPs,z8j]
def zk (ns:List Str) (us:List V):List (Key × V):=List.zipWith (fun (n:Str) (u:V)=>((Sum.inr n:Key),u)) ns us
theorem z5b:∀ {ns:List Str} {us:List V},us.length=ns.length->(zk ns us).map (·.1)=ns.map Sum.inr
 | [],[],_=>rfl
 | [],_::_,h=>by simp at h
 | _::_,[],h=>by simp at h
 | n::r,u::us,h=>by
  have:=z5b (ns:=r) (us:=us) (by simpa using h)
  show Sum.inr n::(zk r us).map (·.1)=_
  rw [this]; rfl
theorem zk7 {ns:List Str} {us:List V} (h:us.length=ns.length):(zk ns us).length=ns.length:=by
 have:=congrArg List.length (z5b h)
 simpa using this
theorem z8t:∀ {kvs:List (Key × V)},(kvs.map (·.1)).Nodup->∀ p ∈ kvs,valV kvs p.1=some p.2
 | [],_,p,hp=>nomatch hp
 | (k,v)::r,h,p,hp=>by
  rw [List.map_cons] at h
  obtain ⟨h1,h2⟩:=List.nodup_cons.mp h
  rcases List.mem_cons.mp hp with rfl | hp
  ·exact valV_pos rfl
  ·rw [valV_neg fun z=>h1 (by rw [z]; exact List.mem_map.mpr ⟨p,hp,rfl⟩)]
   exact z8t h2 p hp
theorem Kinds40.ends {b:Bk} (ok:b.Ok) {ks:List Str} (h:Kinds40 ks false b) (nd:ks.Nodup):∀ n ∈ b.names,EndK b n:=by
 have key:∀ (i:Nat) (n:Str),ks[i]?=some n->EndK b n:=by
  intro i
  induction i using Nat.strongRecOn with
  | ind i ih =>
   intro n en
   refine .mk fun m hm=>?_
   have hn:n ∈ b.names:=h.names.mem_iff.mpr (List.mem_of_getElem? en)
   obtain ⟨k,eg⟩:=Bk.get_of hn
   obtain ⟨hk,rfl⟩:=Bk.get_some eg
   rw [z1n ok hk] at hm
   obtain ⟨r,hr,hm⟩:=List.mem_flatMap.mp hm
   obtain ⟨x,hx,rfl⟩:=List.mem_map.mp hm
   obtain ⟨n1,n2⟩:=h.early rfl k hk i en r hr
   have hx2:x.1.1 ∈ ks.take i:=by
    rcases List.mem_append.mp hx with hx | hx
    ·exact n1 x hx
    ·exact n2 x hx
   obtain ⟨j,hj⟩:=List.getElem?_of_mem hx2
   rw [List.getElem?_take] at hj
   split at hj
   ·rename_i hlt
    exact ih j hlt _ hj
   ·cases hj
 intro n hn
 obtain ⟨i,hi⟩:=List.getElem?_of_mem (h.names.mem_iff.mp hn)
 exact key i n hi
namespace Lad
def R (l:Lad):Prop:=∃ B:Int,1<=B/\l.Ok B
variable {a b c d l k o:Lad} {m n:Int} {w:Bool}
theorem R.nil:R .nil:=⟨1,by decide,trivial⟩
theorem R.bth (h:R l) (g:R k):R (l.bth k):=by
 obtain ⟨B,hB,h⟩:=h
 obtain ⟨C,hC,g⟩:=g
 exact ⟨B+C,by omega,bth_ok h g hB hC⟩
theorem R.tms (h:R l) (hm:0<=m):R (l.tms m):=by
 obtain ⟨B,hB,h⟩:=h
 have:=Int.mul_nonneg (show 0<=B by omega) hm
 exact ⟨B*m+B,by omega,tms_ok h hm⟩
theorem R.lad (h:R o) (g:R l):R (lad w o l):=by
 obtain ⟨B,hB,h⟩:=h
 obtain ⟨C,hC,g⟩:=g
 exact ⟨B+C,by omega,lad_ok h g hB hC⟩
theorem R.ext (h:R l) (g:R k) (e:∀ x,S l x=S k x):l=k:=by
 obtain ⟨B,hB,h⟩:=h
 obtain ⟨C,hC,g⟩:=g
 exact Lad.ext h g e
theorem R.common:∀ {ls:List Lad},(∀ l ∈ ls,R l)->∃ B:Int,1<=B/\∀ l ∈ ls,l.Ok B
 | [],_=>⟨1,by decide,fun l h=>nomatch h⟩
 | x::r,h=>by
  obtain ⟨B,hB,hx⟩:=h x (mcs ..)
  obtain ⟨C,hC,hr⟩:=R.common (ls:=r) fun l hl=>h l (mcm _ hl)
  refine ⟨B+C,by omega,fun l hl=>?_⟩
  rcases List.mem_cons.mp hl with e | e
  ·rw [e]; exact hx.mono (by omega)
  ·exact (hr l e).mono (by omega)
theorem sum_len_le {B:Int} (hB:0<=B) (x:Lad):∀ {ls:List Lad},(∀ l ∈ ls,l.Ok B)->(ls.map fun l=>S l x).sum<=ls.length*B
 | [],_=>by simp
 | y::r,h=>by
  have h1:=ok_pos (h y (mcs ..)) hB x
  have h2:=sum_len_le hB x (ls:=r) fun l hl=>h l (mcm _ hl)
  rw [List.map_cons,List.sum_cons,List.length_cons]
  have:((r.length+1:Nat):Int)*B=r.length*B+B:=by rw [Int.natCast_add,Int.add_mul]; simp
  omega
theorem R.bths {ls:List Lad} (h:∀ l ∈ ls,R l):R (bths ls):=by
 obtain ⟨B,hB,hb⟩:=R.common h
 have hl:(0:Int)<=ls.length*B:=Int.mul_nonneg (Int.natCast_nonneg _) (by omega)
 exact ⟨ls.length*B+B+1,by omega,bths_ok hb (by omega) (by omega) fun x=>by have:=sum_len_le (by omega) x hb; omega⟩
theorem bths_cons {ls:List Lad} (hl:R l) (h:∀ k ∈ ls,R k):Lad.bths (l::ls)=l.bth (Lad.bths ls):=by
 refine R.ext (R.bths fun k hk=>?_) (hl.bth (R.bths h)) fun x=>?_
 ·rcases List.mem_cons.mp hk with e | e
  ·rw [e]; exact hl
  ·exact h k e
 ·rw [Gr.S_bths,S_bth,Gr.S_bths,List.map_cons,List.sum_cons]
def Le (a b:Lad):Prop:=b.lt a=false
theorem Le.refl:Le a a:=lt_irrefl a
theorem Le.trans (h:Le a b) (g:Le b c):Le a c:=le_trans h g
theorem Le.of_lt (h:a.lt b=true):Le a b:=le_of_lt h
theorem Le.cases (h:Le a b):a=b\/a.lt b=true:=by
 by_cases e:a=b
 ·exact .inl e
 ·exact .inr (lt_tri b a (fun z=>e z.symm) h)
theorem lt_le (g:a.lt b=true) (h:Le b c):a.lt c=true:=by
 rcases h.cases with e | e
 ·rw [<- e]; exact g
 ·exact lt_trans _ _ _ g e
theorem bth_lt (ra:R a) (rb:R b) (rc:R c) (h:b.lt c=true):(a.bth b).lt (a.bth c)=true:=by
 obtain ⟨A,hA,ra⟩:=ra
 obtain ⟨B,hB,rb⟩:=rb
 obtain ⟨C,hC,rc⟩:=rc
 exact bth_mono ra rb rc hA hB hC h
theorem le_bth (ra:R a) (rb:R b):Le a (a.bth b):=by
 obtain ⟨A,hA,ra⟩:=ra
 obtain ⟨B,hB,rb⟩:=rb
 exact Le.trans (bhd_ge ra rb hA hB) (bth_ge_bhd ra rb hA hB)
theorem bhd_lt (ra:R a) (rb:R b) (rc:R c) (h:b.lt c=true):(a.bhd b).lt (a.bhd c)=true:=by
 obtain ⟨A,hA,ra⟩:=ra
 obtain ⟨B,hB,rb⟩:=rb
 obtain ⟨C,hC,rc⟩:=rc
 exact bhd_mono ra rb rc hA hB hC h
theorem le_bhd1 (ra:R a) (rb:R b):Le a (a.bhd b):=by
 obtain ⟨A,hA,ra⟩:=ra
 obtain ⟨B,hB,rb⟩:=rb
 exact bhd_ge ra rb hA hB
theorem R.exp {e:Lad} {m:Int} {r:Lad} (h:R (.cons e m r)):R e:=by
 obtain ⟨B,hB,h⟩:=h
 exact ⟨B,hB,h.1⟩
theorem exp_grows (re:R a) (rl:R l) (h:l ≠ .nil):a.lt (a.bhd l)=true:=by
 have h1:=bhd_lt re R.nil rl (nil_le l h)
 rwa [bhd_nil] at h1
theorem top_lt {e e2:Lad} {m m2:Int} {r r2:Lad} (h:e.lt e2=true):Lad.lt (.cons e m r) (.cons e2 m2 r2)=true:=by
 rw [lt_cons,if_neg (lt_ne h)]; exact h
theorem spd_cons {e:Lad} {m:Int} {r:Lad} (h:l ≠ .nil):spd (.cons e m r) l=.cons (e.bhd l) 1 .nil:=by
 cases l with
 | nil=>exact absurd rfl h
 | cons _ _ _=>rfl
theorem lad_lt (ro:R o) (rl:R l) (rk:R k) (ho:o ≠ .nil) (h:l.lt k=true):(lad w o l).lt (lad w o k)=true:=by
 cases w with
 | false=>exact bhd_lt ro rl rk h
 | true =>
  show (spd o l).lt (spd o k)=true
  have hk:k ≠ .nil:=fun z=>by rw [z,lt_nil_r] at h; cases h
  cases o with
  | nil=>exact absurd rfl ho
  | cons e m r =>
   rw [spd_cons hk]
   by_cases hl:l=.nil
   ·rw [hl]
    show Lad.lt (.cons e m r) _=true
    exact top_lt (exp_grows ro.exp rk hk)
   ·rw [spd_cons hl]
    exact top_lt (bhd_lt ro.exp rl rk h)
theorem le_lad1 (ro:R o) (rl:R l) (ho:o ≠ .nil):Le o (lad w o l):=by
 cases w with
 | false=>exact le_bhd1 ro rl
 | true =>
  show Le o (spd o l)
  cases o with
  | nil=>exact absurd rfl ho
  | cons e m r =>
   by_cases hl:l=.nil
   ·rw [hl]; exact Le.refl
   ·rw [spd_cons hl]; exact Le.of_lt (top_lt (exp_grows ro.exp rl hl))
theorem above_gt (rl:R l) (rk:R k) (hn:0<=n):(l.bth (k.tms n)).lt (l.abv k)=true:=by
 obtain ⟨B,hB,rl⟩:=rl
 obtain ⟨C,hC,rk⟩:=rk
 exact abv_gt rl rk hB hC hn
theorem uno_le (rl:R l) (h:l ≠ .nil):Le uno l:=by
 cases l with
 | nil=>exact absurd rfl h
 | cons e m r =>
  show Lad.lt (.cons e m r) (.cons .nil 1 .nil)=false
  obtain ⟨B,hB,h1,h2,_⟩:=rl
  rw [lt_cons]
  split
  ·split
   ·exact lt_nil_r _
   ·exact decide_eq_false (by omega)
  ·exact lt_nil_r _
end Lad
namespace Gr
variable {b:Bk} {ρ σ:Str->Lad} {C:Int}
def RN (ρ:Str->Lad) (g:Gr):Prop:=∀ x ∈ g.within,Lad.R (ρ x.1.1)/\ρ x.1.1 ≠ .nil
theorem RN.cons {k:Str} {g r:Gr} {m:Int} (h:RN ρ (.cons k g m r)):(Lad.R (ρ k)/\ρ k ≠ .nil)/\RN ρ g/\RN ρ r :=
 ⟨h ((k,g),m) (mcs ..),fun x hx=>h x (mcm _ (mal _ hx)),fun x hx=>h x (mcm _ (mar _ hx))⟩
theorem rkT_R:∀ {g:Gr},g.Ok C->RN ρ g->∀ l ∈ rkT b ρ g,Lad.R l
 | .nil,_,_,l,hl=>nomatch hl
 | .cons k g m r,ho,h,l,hl=>by
  obtain ⟨h1,h2,h3⟩:=h.cons
  obtain ⟨o1,o2,o3,o4,o5,_⟩:=ho
  rcases List.mem_cons.mp hl with e | e
  ·rw [e]; exact (h1.1.lad (Lad.R.bths (rkT_R o2 h2))).tms (by omega)
  ·exact rkT_R o5 h3 l e
theorem rk_R {g:Gr} (ho:g.Ok C) (h:RN ρ g):Lad.R (rk b ρ g):=Lad.R.bths (rkT_R ho h)
theorem rk_cons {k:Str} {g r:Gr} {m:Int} (ho:(Gr.cons k g m r).Ok C) (h:RN ρ (.cons k g m r)):rk b ρ (.cons k g m r)=(Lad.tms (rkt b ρ (k,g)) m).bth (rk b ρ r):=by
 obtain ⟨h1,h2,h3⟩:=h.cons
 obtain ⟨o1,o2,o3,o4,o5,_⟩:=ho
 exact Lad.bths_cons ((h1.1.lad (rk_R o2 h2)).tms (by omega)) (rkT_R o5 h3)
theorem rk_tmsG {g:Gr} {m:Int} (hm:0<=m) (hg:Lad.R (rk b ρ g)) (hk:Lad.R (rk b ρ (tmsG g m))):rk b ρ (tmsG g m)=Lad.tms (rk b ρ g) m:=by
 refine Lad.R.ext hk (hg.tms hm) fun x=>?_
 rw [S_rk,Lad.S_tms,S_rk]
 by_cases h0:m=0
 ·subst h0; simp [tmsG,Gr.ps,wsum]
 ·rw [tmsG,if_neg h0,ps_ofPs,wsum_tms]
theorem rk_tgtG {g k:Gr} (hg:Lad.R (rk b ρ g)) (hk:Lad.R (rk b ρ k)) (hj:Lad.R (rk b ρ (tgt g k))):rk b ρ (tgt g k)=(rk b ρ g).bth (rk b ρ k):=by
 obtain ⟨B,hB,hg⟩:=hg
 obtain ⟨C,hC,hk⟩:=hk
 obtain ⟨D,hD,hj⟩:=hj
 exact zcb hg hk hB hC hj
theorem RN.named {ns:List Str} {g:Gr} (h:∀ n ∈ ns,Lad.R (ρ n)/\ρ n ≠ .nil) (hn:Named ns g):RN ρ g:=fun x hx=>h _ (hn x hx)
theorem rk_grw {r:Ru} {n:Int} {ns:List Str} (rok:RuOk r) (hn:0<=n) (h:∀ n ∈ ns,Lad.R (ρ n)/\ρ n ≠ .nil) (h1:Named ns r.1) (h2:Named ns r.2):rk b ρ (grw r n)=(rk b ρ r.1).bth (Lad.tms (rk b ρ r.2) n):=by
 obtain ⟨o1,o2,_⟩:=rok
 have r1:=rk_R (b:=b) o1 (RN.named h h1)
 have r2:=rk_R (b:=b) o2 (RN.named h h2)
 have ot:=tms_ok o2 (by decide) hn
 have nt:=named_tms h2 n
 have rt:=rk_R (b:=b) ot (RN.named h nt)
 have z:=Int.mul_nonneg (show (0:Int)<=1000000001 by decide) hn
 have rj:=rk_R (b:=b) (tgt_ok2 o1 ot (by decide) (by omega)) (RN.named h (named_tgt h1 nt))
 unfold grw
 rw [rk_tgtG r1 rt rj,rk_tmsG hn r2 rt]
end Gr
def NoF (b:Bk) (ρ:Str->Lad):Prop:=∀ k ∈ b,∀ r ∈ k.rs,(ρ k.n).lt (clm b ρ r)=false
def RB (b:Bk) (ρ:Str->Lad):Prop:=∀ n ∈ b.names,Lad.R (ρ n)/\ρ n ≠ .nil
theorem Bk.Ok.named {b:Bk} (ok:b.Ok) {k:Kd} (hk:k ∈ b) {r:Ru} (hr:r ∈ k.rs):RuOk r/\Gr.Named b.names r.1/\Gr.Named b.names r.2:=by
 obtain ⟨h1,h2⟩:=(ok.kd k hk).2.2 r hr
 exact ⟨h1,fun x hx=>h2 x (mal _ hx),fun x hx=>h2 x (mar _ hx)⟩
theorem NoF.own {b:Bk} {ρ:Str->Lad} (ok:b.Ok) (h:∀ n ∈ b.names,EndK b n/\ρ n=z06 b n):NoF b ρ:=fun k hk r hr=>by
 have hn:k.n ∈ b.names:=List.mem_map.mpr ⟨k,hk,rfl⟩
 obtain ⟨_,n1,n2⟩:=ok.named hk hr
 rw [(h _ hn).2,z7k ok hk (h _ hn).1]
 refine Lad.maxL_ge _ _ _ (mcm _ (List.mem_map.mpr ⟨r,hr,?_⟩))
 refine z8p fun x hx=>?_
 rcases List.mem_append.mp hx with e | e
 ·exact (h _ (n1 x e)).2.symm
 ·exact (h _ (n2 x e)).2.symm
structure Wb (l:Lad):Prop where
 ne:l ≠ .nil
 parts:l.parts<=126
 deep:l.deep<=12
 ok:l.Ok (2 ^ 340)
theorem Wb.rb {b:Bk} {ρ:Str->Lad} (h:∀ n ∈ b.names,Wb (ρ n)):RB b ρ:=fun n hn=>⟨⟨2 ^ 340,z0b _,(h n hn).ok⟩,(h n hn).ne⟩
namespace Lad
variable {a b c l k o h h':Lad} {m n:Int} {w:Bool}
theorem lad_nil (ho:o ≠ .nil):lad w o .nil=o:=by
 cases w with
 | true =>
  cases o with
  | nil=>exact absurd rfl ho
  | cons e m r=>rfl
 | false=>exact bhd_nil o
theorem tms_by_one (r:R l):tms l 1=l:=by
 refine (r.tms (by decide)).ext r fun x=>?_
 rw [S_tms]; omega
theorem wide_less {e0 r0:Lad} {m0:Int} (ro:R (.cons e0 m0 r0)) (rh:R h) (rh':R h') (hl:h'.lt h=true) (hn:0<=n):(tms (lad true (.cons e0 m0 r0) h') (1+n)).lt (lad true (.cons e0 m0 r0) h)=true:=by
 have hne:h ≠ .nil:=fun z=>by rw [z,lt_nil_r] at hl; cases hl
 have e1:lad true (.cons e0 m0 r0) h=.cons (bhd e0 h) 1 .nil:=spd_cons hne
 rw [e1]
 cases h' with
 | nil =>
  rw [lad_nil (by simp)]
  unfold tms
  rw [if_neg (by omega)]
  exact top_lt (exp_grows ro.exp rh hne)
 | cons f q s =>
  rw [show lad true (.cons e0 m0 r0) (.cons f q s)=.cons (bhd e0 (.cons f q s)) 1 .nil from rfl,tms_one (by omega)]
  exact top_lt (bhd_lt ro.exp rh' rh hl)
end Lad
namespace Gr
variable {b:Bk} {ρ:Str->Lad} {ns:List Str} {C F n:Int} {g X fr:Gr} {p:Tr × Int}
theorem wo_S (h:g.Ok C) (hp:p ∈ g.ps) (X:Gr) (x:Lad):Lad.S (rk b ρ (tgt (wo g p.1 1) X)) x=Lad.S (rk b ρ g) x-Lad.S (rkt b ρ p.1) x+Lad.S (rk b ρ X) x:=by
 rw [S_rk,S_rk,S_rk X]
 have e:=z3r (fun t=>Lad.S (rkt b ρ t) x) _ (tgt (wo g p.1 1) X).ps (g.ps++((p.1,-1)::X.ps)) (Nat.le_refl _) (fun y=>?_)
 ·rw [e,z32]
  show wsum _ g.ps+(Lad.S (rkt b ρ p.1) x*-1+wsum _ X.ps)=_
  omega
 ·show S (tgt (wo g p.1 1) X) y=_
  rw [S_tgt,S_wo h (by decide),z0x,z0f]
  show _=S g y+((if p.1=y then -1 else 0)+S X y)
  have h1:=S_mem h hp
  have h2:=(ok_mem h hp).2.2.1
  by_cases e:y=p.1
  ·rw [if_pos e,if_pos e.symm,e,h1]
   split <;> omega
  ·rw [if_neg e,if_neg (fun z=>e z.symm)]
   omega
theorem wo_S' (h:g.Ok C) (hp:p ∈ g.ps) (x:Lad):Lad.S (rk b ρ (wo g p.1 1)) x=Lad.S (rk b ρ g) x-Lad.S (rkt b ρ p.1) x:=by
 have h1:=wo_S (b:=b) (ρ:=ρ) h hp .nil x
 rw [tgt_nil (wo_ok h (by decide))] at h1
 rw [h1,rk_nil]
 show _-_+Lad.sumAt [] x=_
 rw [Lad.sumAt_nil]; omega
def cme (b:Bk) (ρ:Str->Lad) (n:Int) (fr:Gr) (r:Pl) (p:Tr × Int):Lad:=if r=[] then rk b ρ fr else Lad.tms (rkt b ρ (chg b n fr r p)) (1+b.far p.1.1 n)
theorem chg_facts (hn:0<=n) (hfr:fr.Ok F) (hF:1<=F) (hfn:Named ns fr) (h:g.Ok C) (hg:Named ns g) (hp:p ∈ g.ps) {r:Pl} {k:Str} (hk:bareAt p.1.2 r=some k) :
  z02 (chg b n fr r p).1/\(chg b n fr r p).2.Ok (C+F+n+2)/\(chg b n fr r p).1 ∈ ns/\Named ns (chg b n fr r p).2:=by
 obtain ⟨h1,h2⟩:=named_iff.mp hg p hp
 obtain ⟨o1,o2,_⟩:=ok_mem h hp
 exact ⟨o1,stk_ok hn hF hfr o2 hk,h1,stk_named hfn hk h2⟩
theorem noR_ok:RuOk noR/\Named ns noR.1/\Named ns noR.2:=by
 refine ⟨⟨trivial,trivial,by decide⟩,?_,?_⟩
 ·intro x hx; exact nomatch hx
 ·intro x hx; exact nomatch hx
theorem far_w2 {k:Str} (n:Int):b.far k n=if b.wide k=true then n else 0:=by
 unfold Bk.far Bk.wide
 cases b.get k with
 | none=>rfl
 | some kd=>rfl
end Gr
inductive PairedL {α β:Type} (F:α->β->Prop):List α->List β->Prop
 | nil:PairedL F [] []
 | cons {a:α} {b:β} {as:List α} {bs:List β}:F a b->PairedL F as bs->PairedL F (a::as) (b::bs)
namespace PairedL
variable {α β:Type} {F G:α->β->Prop}
theorem mono:∀ {as:List α} {bs:List β},PairedL F as bs->(∀ a b,F a b->G a b)->PairedL G as bs
 | _,_,.nil,_=>.nil
 | _,_,.cons h r,g=>.cons (g _ _ h) (r.mono g)
end PairedL
namespace Gr
variable {b:Bk} {ρ:Str->Lad} {ns:List Str} {C F n:Int} {g X fr:Gr} {p:Tr × Int}
structure Goods0 (b:Bk) (ρ:Str->Lad) (ns:List Str):Prop where
 rt:∀ n ∈ ns,Lad.R (ρ n)/\ρ n ≠ .nil
 nm:∀ n ∈ ns,∀ kd,b.get n=some kd->∀ r ∈ kd.rs,RuOk r/\Named ns r.1/\Named ns r.2
 le:∀ n ∈ ns,∀ kd,b.get n=some kd->∀ r ∈ noR::kd.rs,Lad.Le (clm b ρ r) (ρ n)
theorem rkt_R0 (G:Goods0 b ρ ns) {t:Tr} (hk:t.1 ∈ ns) (ho:t.2.Ok C) (hn:Named ns t.2):Lad.R (rkt b ρ t) :=
 (G.rt _ hk).1.lad (rk_R ho (RN.named G.rt hn))
theorem G_R0 (G:Goods0 b ρ ns) (ho:g.Ok C) (hn:Named ns g):Lad.R (rk b ρ g):=rk_R ho (RN.named G.rt hn)
theorem rk_take0 (G:Goods0 b ρ ns) (h:g.Ok C) (hn:Named ns g) (hp:p ∈ g.ps):rk b ρ g=(rk b ρ (wo g p.1 1)).bth (rkt b ρ p.1):=by
 obtain ⟨h1,h2⟩:=named_iff.mp hn p hp
 refine (G_R0 G h hn).ext ((G_R0 G (wo_ok h (by decide)) (named_wo hn _ _)).bth (rkt_R0 G h1 (ok_mem h hp).2.1 h2)) fun x=>?_
 rw [Lad.S_bth,wo_S' h hp]; omega
theorem rk_swap0 (G:Goods0 b ρ ns) (h:g.Ok C) (hn:Named ns g) (hX:X.Ok F) (hF:1<=F) (hXn:Named ns X) (hp:p ∈ g.ps):rk b ρ (tgt (wo g p.1 1) X)=(rk b ρ (wo g p.1 1)).bth (rk b ρ X):=by
 have c2:=C_pos h hp
 refine (G_R0 G (tgt_ok2 (wo_ok h (by decide)) hX (by omega) hF) (named_tgt (named_wo hn _ _) hXn)).ext ((G_R0 G (wo_ok h (by decide)) (named_wo hn _ _)).bth (G_R0 G hX hXn)) fun x=>?_
 rw [Lad.S_bth,wo_S h hp,wo_S' h hp]
theorem rk_one0 (G:Goods0 b ρ ns) {t:Tr} {m:Int} (h1:z02 t.1) (h2:t.2.Ok C) (hk:t.1 ∈ ns) (hn:Named ns t.2) (hm:1<=m) (hC:m < C):rk b ρ (one t m)=Lad.tms (rkt b ρ t) m:=by
 have rt:=rkt_R0 G hk h2 hn
 have e:rk b ρ (one t m)=(Lad.tms (rkt b ρ t) m).bth (rk b ρ .nil):=rk_cons (C:=C) (one_ok h1 h2 hm hC) (RN.named G.rt (named_one hk hn m))
 rw [e,rk_nil]
 obtain ⟨B,hB,hb⟩:=rt.tms (m:=m) (by omega)
 exact Lad.bth_nil hb
theorem rk_stk0 (G:Goods0 b ρ ns) (hn:0<=n) (hfr:fr.Ok F) (hF:1<=F) (hfn:Named ns fr) (h:g.Ok C) (hg:Named ns g) {i:Nat} {r:Pl} {k:Str} (ep:g.ps[i]?=some p) (hk:bareAt g (i::r)=some k) :
  rk b ρ (stk b n fr (i::r) g).1=(rk b ρ (wo g p.1 1)).bth (cme b ρ n fr r p):=by
 have hp:=List.mem_of_getElem? ep
 unfold cme
 by_cases hr:r=[]
 ·subst hr
  rw [if_pos rfl,stk_one ep]
  exact rk_swap0 G h hg hfr hF hfn hp
 ·rw [if_neg hr,stk_more ep hr]
  obtain ⟨p',e',hb⟩:=bare_more hr hk
  rw [ep] at e'
  cases e'
  obtain ⟨c1,c2,c3,c4⟩:=chg_facts (b:=b) hn hfr hF hfn h hg hp hb
  have hf:=b.far_le p.1.1 hn
  have c2p:=C_pos h hp
  have ho:=one_ok (m:=1+b.far p.1.1 n) c1 c2 (by omega) (by omega)
  show rk b ρ (tgt (wo g p.1 1) (one (chg b n fr r p) (1+b.far p.1.1 n)))=_
  rw [rk_swap0 G h hg ho (by omega) (named_one c3 c4 _) hp,rk_one0 G c1 c2 c3 c4 (by omega) (by omega)]
theorem clm_le0 (G:Goods0 b ρ ns) {k:Str} {kd:Kd} (hk:k ∈ ns) (e:b.get k=some kd) {r:Ru} (hr:r ∈ noR::kd.rs):Lad.Le (clm b ρ r) (ρ k):=G.le k hk kd e r hr
theorem ru_facts0 (G:Goods0 b ρ ns) {k:Str} {kd:Kd} (hk:k ∈ ns) (e:b.get k=some kd) {r:Ru} (hr:r ∈ noR::kd.rs):RuOk r/\Named ns r.1/\Named ns r.2:=by
 rcases List.mem_cons.mp hr with z | z
 ·rw [z]; exact noR_ok
 ·exact G.nm k hk kd e r z
theorem grw_facts0 (G:Goods0 b ρ ns) {k:Str} {kd:Kd} (hk:k ∈ ns) (e:b.get k=some kd) {r:Ru} (hr:r ∈ noR::kd.rs) (hn:0<=n) :
  (grw r n).Ok (1000000001*n+2000000002)/\Named ns (grw r n)/\rk b ρ (grw r n)=(rk b ρ r.1).bth (Lad.tms (rk b ρ r.2) n)/\Lad.R (rk b ρ r.1)/\Lad.R (rk b ρ r.2):=by
 obtain ⟨r1,r2,r3⟩:=ru_facts0 G hk e hr
 refine ⟨grw_ok r1 hn,named_tgt r2 (named_tms r3 n),rk_grw r1 hn G.rt r2 r3,G_R0 G r1.1 r2,G_R0 G r1.2.1 r3⟩
theorem rkt_bare0 (G:Goods0 b ρ ns) {k:Str} (hk:k ∈ ns):rkt b ρ (k,.nil)=ρ k:=by
 show lad (b.wide k) (ρ k) (rk b ρ .nil)=ρ k
 rw [rk_nil]
 exact Lad.lad_nil (G.rt k hk).2
theorem stk_less0 (G:Goods0 b ρ ns) {k:Str} {kd:Kd} {r:Ru} (e:b.get k=some kd) (hr:r ∈ noR::kd.rs) (hn:0<=n):∀ {pl:Pl} {g:Gr},g.Ok C->Named ns g->bareAt g pl=some k->(rk b ρ (stk b n (grw r n) pl g).1).lt (rk b ρ g)=true
 | [],g,_,_,h=>nomatch h
 | i::pl,g,ho,hg,hb=>by
  have hex:∃ p,g.ps[i]?=some p:=by
   cases hx:g.ps[i]? with
   | none=>rw [bareAt,hx] at hb; cases hb
   | some p=>exact ⟨p,rfl⟩
  obtain ⟨p,ep⟩:=hex
  have hp:=List.mem_of_getElem? ep
  obtain ⟨n1,n2⟩:=named_iff.mp hg p hp
  obtain ⟨o1,o2,_⟩:=ok_mem ho hp
  have hk:k ∈ ns:=bare_named hg hb
  obtain ⟨f1,f2,f3,f4,f5⟩:=grw_facts0 (n:=n) G hk e hr hn
  have f6:(1:Int)<=1000000001*n+2000000002:=by omega
  rw [rk_stk0 G hn f1 f6 f2 ho hg ep hb,rk_take0 G ho hg hp]
  have rW:=G_R0 G (wo_ok (t:=p.1) (m:=1) ho (by decide)) (named_wo hg p.1 1)
  have rt:=rkt_R0 G n1 o2 n2
  unfold cme
  by_cases hpl:pl=[]
  ·subst hpl
   rw [if_pos rfl]
   obtain ⟨p',e',z⟩:=bare_one hb
   rw [ep] at e'
   cases e'
   refine Lad.bth_lt rW (G_R0 G f1 f2) rt ?_
   rw [z,rkt_bare0 G hk,f3]
   exact Lad.lt_le (Lad.above_gt f4 f5 hn) (clm_le0 G hk e hr)
  ·rw [if_neg hpl]
   obtain ⟨p',e',hb'⟩:=bare_more hpl hb
   rw [ep] at e'
   cases e'
   obtain ⟨c1,c2,c3,c4⟩:=chg_facts (b:=b) hn f1 f6 f2 ho hg hp hb'
   have hf:=b.far_le p.1.1 hn
   refine Lad.bth_lt rW ((rkt_R0 G c3 c2 c4).tms (by omega)) rt ?_
   have ih:=stk_less0 G e hr hn o2 n2 hb'
   have rh:=G_R0 G o2 n2
   have rh':=G_R0 G c2 c4
   show (Lad.tms (lad (b.wide p.1.1) (ρ p.1.1) (rk b ρ (chg b n (grw r n) pl p).2)) (1+b.far p.1.1 n)).lt (lad (b.wide p.1.1) (ρ p.1.1) (rk b ρ p.1.2))=true
   obtain ⟨ro,rne⟩:=G.rt _ n1
   rw [far_w2]
   cases hw:b.wide p.1.1 with
   | true =>
    rw [if_pos rfl]
    cases hq:ρ p.1.1 with
    | nil=>exact absurd hq rne
    | cons e0 m0 r0 =>
     rw [hq] at ro
     exact Lad.wide_less ro rh rh' ih hn
   | false =>
    rw [if_neg (by decide),Int.add_zero,Lad.tms_by_one (ro.lad rh')]
    exact Lad.lad_lt ro rh' rh rne ih
end Gr
theorem z9p:(2:Int) ^ 2000 < 2 ^ 400000:=by
 have h:=z0g (show 2001<=400000 by decide)
 have h2:=z15 2000
 have h3:=z0b 2000
 omega
structure z1i (l:Lad):Prop where
 deep:l.deep<=29
 parts:l.parts<=900000
 num:∀ p ∈ l.ps,0<=p.2/\p.2 < 2 ^ 400000
theorem LFit.z {l:Lad} (h:LFit l):z1i l:=⟨Nat.le_trans h.deep (by decide),Nat.le_trans h.parts (by decide),fun p hp=>⟨(h.num p hp).1,Int.lt_trans (h.num p hp).2 z9p⟩⟩
def Gr.FitZ (b:Bk) (ρ:Str->Lad) (ns:List Str):Gr->Prop
 | .nil=>True
 | .cons k g m r=>(k ∈ ns/\k ∈ b.names/\ρ k ≠ .nil/\z1i (ρ k)/\z1i (Gr.rk b ρ g)/\z1i (Gr.rkt b ρ (k,g))/\0<=m/\m < 2 ^ 400000/\((Gr.rkT b ρ (.cons k g m r)).flatMap Lad.ps).length<=1900000)/\Gr.FitZ b ρ ns g/\Gr.FitZ b ρ ns r
namespace Gr
variable {b:Bk} {ρ:Str->Lad} {ns:List Str}
theorem Fit.z:∀ {g:Gr},Fit b ρ ns g->FitZ b ρ ns g
 | .nil,_=>trivial
 | .cons k g m r,h=>by
  obtain ⟨⟨h1,h2,h3,h4,h5,h6,h7,h8,h9⟩,hg,hr⟩:=h
  exact ⟨⟨h1,h2,h3,h4.z,h5.z,h6.z,h7,Int.lt_trans h8 z9p,Nat.le_trans h9 (by decide)⟩,Fit.z hg,Fit.z hr⟩
theorem FitZ.at:∀ {g:Gr},FitZ b ρ ns g->∀ p ∈ g.ps,(p.1.1 ∈ ns/\p.1.1 ∈ b.names/\ρ p.1.1 ≠ .nil/\z1i (ρ p.1.1)/\z1i (rk b ρ p.1.2)/\z1i (rkt b ρ p.1)/\0<=p.2/\p.2 < 2 ^ 400000)/\FitZ b ρ ns p.1.2
 | .nil,_,p,hp=>nomatch hp
 | .cons k g m r,h,p,hp=>by
  obtain ⟨⟨h1,h2,h3,h4,h5,h6,h7,h8,_⟩,hg,hr⟩:=h
  rcases List.mem_cons.mp hp with rfl | hp
  ·exact ⟨⟨h1,h2,h3,h4,h5,h6,h7,h8⟩,hg⟩
  ·exact FitZ.at hr p hp
theorem FitZ.len:∀ {g:Gr},FitZ b ρ ns g->((rkT b ρ g).flatMap Lad.ps).length<=1900000
 | .nil,_=>by simp [rkT]
 | .cons k g m r,h=>h.1.2.2.2.2.2.2.2.2
theorem FitZ.mono {ms:List Str} (h:∀ n ∈ ns,n ∈ ms):∀ {g:Gr},FitZ b ρ ns g->FitZ b ρ ms g
 | .nil,_=>trivial
 | .cons k g m r,⟨h1,h2,h3⟩=>⟨⟨h _ h1.1,h1.2⟩,FitZ.mono h h2,FitZ.mono h h3⟩
end Gr
def z78 (K:PySem.W.Frag) (C:Addr):Sp:=fun vs H Q _=>∃ (v u t:V) (b:Bk) (n:Str) (o l:Lad),vs=[v,.str n,u,t]/\BkA K C H v b/\b.length<=1000/\n ∈ b.names/\(LA K H u o/\o ≠ .nil/\z1i o)/\(LA K H t l/\z1i l)/\∀ (x:V) (H':Hp),SB [] H H'->LA K H' x (lad (b.wide n) o l)->Q x H'
def z2m (K:PySem.W.Frag) (C:Addr) (m:Nat):Sp:=fun vs H Q _=>∃ (v t:V) (d:Addr) (b:Bk) (ρ:Str->Lad) (ns:List Str) (k:Str) (g:Gr),vs=[v,.ref d,t]/\BkA K C H v b/\b.length<=1000/\RkD K H d ρ ns/\Dp K H t (Gr.tEnc (k,g))/\g.deep < m/\(k ∈ ns/\k ∈ b.names/\ρ k ≠ .nil/\z1i (ρ k)/\z1i (Gr.rk b ρ g))/\Gr.FitZ b ρ ns g/\g.parts<=900/\∀ (x:V) (H':Hp),SB [] H H'->LA K H' x (Gr.rkt b ρ (k,g))->Q x H'
def z1o (K:PySem.W.Frag) (C:Addr) (m:Nat):Sp:=fun vs H Q _=>∃ (v u:V) (d:Addr) (b:Bk) (ρ:Str->Lad) (ns:List Str) (g:Gr),vs=[v,.ref d,u]/\BkA K C H v b/\b.length<=1000/\RkD K H d ρ ns/\GA K H u g/\g.deep < m/\Gr.FitZ b ρ ns g/\g.parts<=900/\∀ (x:V) (H':Hp),SB [] H H'->LA K H' x (Gr.rk b ρ g)->Q x H'
theorem zak {P:Program} {w:World} {K:PySem.W.Frag} {mg:Str->Option Value} {base:Heap} {f:Addr} {fd:FuncData} {C:Addr} {ps:List Str} {k:Nat}:FnOk P w K mg base CX0 k f fd ps (z1o K C 0):=z0o fun vs H Q E ⟨_,_,_,_,_,_,_,_,_,_,_,_,h,_⟩=>by omega
namespace Gr
variable {b:Bk} {ρ σ:Str->Lad} {C:Int} {ns:List Str}
theorem rk_numsU {x:Nat} (hk:∀ n ∈ ns,(ρ n).Ok (2 ^ x)):∀ {g:Gr},Named ns g->g.Ok (2 ^ 210)->(∀ l ∈ rkT b ρ g,l.Ok (2 ^ (x+212*g.parts)))/\∀ y,((rkT b ρ g).map fun l=>Lad.S l y).sum < 2 ^ (x+212*g.parts)
 | .nil,_,_=>And.intro (fun l hl=>nomatch hl) (fun y=>by
  show (0:Int) < _
  have:=z0b (x+212*Gr.nil.parts); omega)
 | .cons k g m r,h,ho=>by
  obtain ⟨_,hg,hm1,hm2,hr,_⟩:=ho
  have hkn:k ∈ ns:=h ((k,g),m) (mcs ..)
  obtain ⟨g1,g2⟩:=rk_numsU hk (g:=g) (fun x hx=>h x (mcm _ (mal _ hx))) hg
  obtain ⟨r1,r2⟩:=rk_numsU hk (g:=r) (fun x hx=>h x (mcm _ (mar _ hx))) hr
  have e1:(Gr.cons k g m r).parts=1+g.parts+r.parts:=rfl
  have p0:=z0b (x+212*g.parts)
  have px:=z0b x
  have io:(Lad.bths (rkT b ρ g)).Ok (2 ^ (x+212*g.parts)):=Lad.bths_ok g1 (by omega) (Int.le_refl _) g2
  have lo:=Lad.lad_ok (w:=b.wide k) (hk k hkn) io px p0
  have m1:=z0g (show x<=x+212*g.parts by omega)
  have lo2:(lad (b.wide k) (ρ k) (Lad.bths (rkT b ρ g))).Ok (2 ^ (x+212*g.parts+1)):=lo.mono (by rw [z15]; omega)
  have to:=Lad.tms_ok lo2 (show 0<=m by omega)
  have q0:=z0b (x+212*g.parts+1)
  have hb:2 ^ (x+212*g.parts+1)*m+2 ^ (x+212*g.parts+1)<=2 ^ (x+212*g.parts+211):=by
   have:(2:Int) ^ (x+212*g.parts+211)=2 ^ (x+212*g.parts+1)*2 ^ 210:=by rw [<- Int.pow_add]
   rw [this]
   have h2:(2:Int) ^ (x+212*g.parts+1)*(m+1)<=2 ^ (x+212*g.parts+1)*2 ^ 210:=Int.mul_le_mul_of_nonneg_left (by omega) (by omega)
   rw [Int.mul_add,Int.mul_one] at h2
   exact h2
  have to2:=to.mono hb
  have w1:=z0g (show x+212*g.parts+211<=x+212*(1+g.parts+r.parts)-1 by omega)
  have w2:=z0g (show x+212*r.parts<=x+212*(1+g.parts+r.parts)-1 by omega)
  have w3:=z15 (x+212*(1+g.parts+r.parts)-1)
  rw [show x+212*(1+g.parts+r.parts)-1+1=x+212*(1+g.parts+r.parts) by omega] at w3
  have w0:=z0b (x+212*(1+g.parts+r.parts)-1)
  rw [e1]
  refine ⟨fun l hl=>?_,fun y=>?_⟩
  ·rcases List.mem_cons.mp hl with rfl | hl
   ·exact to2.mono (by omega)
   ·exact (r1 l hl).mono (by omega)
  ·show Lad.S (Lad.tms (lad (b.wide k) (ρ k) (Lad.bths (rkT b ρ g))) m) y+((rkT b ρ r).map fun l=>Lad.S l y).sum < _
   have s2:=r2 y
   have s3:Lad.S (Lad.tms (lad (b.wide k) (ρ k) (Lad.bths (rkT b ρ g))) m) y < 2 ^ (x+212*g.parts+211)\/Lad.S (Lad.tms (lad (b.wide k) (ρ k) (Lad.bths (rkT b ρ g))) m) y<=0:=by
    rcases Lad.S_cases to2 y with ⟨h1,_⟩ | ⟨mm,_,h2,_,h4⟩
    ·right; omega
    ·left; omega
   have w4:=z0b (x+212*g.parts+211)
   rcases s3 with s3 | s3 <;> omega
theorem rk_fitZ {P D x:Nat} (hk:∀ n ∈ ns,n ∈ b.names/\ρ n ≠ .nil/\(ρ n).parts<=P/\(ρ n).deep<=D/\(ρ n).Ok (2 ^ x)) (hP:1<=P):∀ {g:Gr},Named ns g->g.Ok (2 ^ 210)->P*g.parts<=890000->D+g.deep<=28->x+212*g.parts<=400000->FitZ b ρ ns g
 | .nil,_,_,_,_,_=>trivial
 | .cons k g m r,h,ho,hp,hd,hx=>by
  have hP':∀ n ∈ ns,(ρ n).parts<=P/\(ρ n).deep<=D:=fun n hn=>⟨(hk n hn).2.2.1,(hk n hn).2.2.2.1⟩
  have hX':∀ n ∈ ns,(ρ n).Ok (2 ^ x):=fun n hn=>(hk n hn).2.2.2.2
  have nm:2 ^ 210<=(2:Int) ^ 400000:=z0g (by decide)
  obtain ⟨hkn,hnn⟩:k ∈ ns/\(Named ns g/\Named ns r):=⟨h ((k,g),m) (mcs ..),fun x hx=>h x (mcm _ (mal _ hx)),fun x hx=>h x (mcm _ (mar _ hx))⟩
  obtain ⟨ok0,hg,hm1,hm2,hr,hrise⟩:=ho
  have ho:(Gr.cons k g m r).Ok (2 ^ 210):=⟨ok0,hg,hm1,hm2,hr,hrise⟩
  have e1:(Gr.cons k g m r).parts=1+g.parts+r.parts:=rfl
  have e2:(Gr.cons k g m r).deep=max (1+g.deep) r.deep:=rfl
  rw [e1,Nat.mul_add,Nat.mul_add,Nat.mul_one] at hp
  rw [e1] at hx
  obtain ⟨s1,s2⟩:=rk_size hP' h
  obtain ⟨g1,g2⟩:=rk_size hP' hnn.1
  obtain ⟨n1,n2⟩:=rk_numsU hX' hnn.1 hg
  have p0:=z0b (x+212*g.parts)
  have px:=z0b x
  have io:(Lad.bths (rkT b ρ g)).Ok (2 ^ (x+212*g.parts)):=Lad.bths_ok n1 (by omega) (Int.le_refl _) n2
  have lo:=(Lad.lad_ok (w:=b.wide k) (hX' k hkn) io px p0)
  have m1:=z0g (show x<=x+212*g.parts by omega)
  have m2:=z0g (show x+212*g.parts+1<=400000 by omega)
  have m3:=z15 (x+212*g.parts)
  obtain ⟨kb,kne,kp,kd,kx⟩:=hk k hkn
  have num:∀ {l:Lad},l.Ok (2 ^ 400000)->∀ p ∈ l.ps,0<=p.2/\p.2 < 2 ^ 400000:=fun hl p hp=>by
   have:=(Lad.ok_iff.mp hl).1 p hp
   exact ⟨by omega,this.2.2⟩
  have ip:(Lad.bths (rkT b ρ g)).parts<=P*g.parts:=Nat.le_trans (Lad.bths_parts _) g1
  have idp:(Lad.bths (rkT b ρ g)).deep<=D+g.deep:=Lad.bths_deep g2
  have lp:=Lad.lad_parts (b.wide k) (ρ k) (Lad.bths (rkT b ρ g))
  have ld:=Lad.lad_deep (w:=b.wide k) (o:=ρ k) (l:=Lad.bths (rkT b ρ g)) (n:=D+g.deep) (by omega) idp
  refine ⟨⟨hkn,kb,kne,⟨by omega,by omega,num (kx.mono (by omega))⟩,⟨by show (Lad.bths (rkT b ρ g)).deep<=29; omega,by show (Lad.bths (rkT b ρ g)).parts<=900000; omega,num (io.mono (by omega))⟩,⟨by show (lad (b.wide k) (ρ k) (Lad.bths (rkT b ρ g))).deep<=29; omega,by show (lad (b.wide k) (ρ k) (Lad.bths (rkT b ρ g))).parts<=900000; omega,num (lo.mono (by omega))⟩,by omega,by omega,?_⟩,rk_fitZ hk hP hnn.1 hg (by omega) (by omega) (by omega),rk_fitZ hk hP hnn.2 hr (by omega) (by omega) (by omega)⟩
  have key:∀ ls:List Lad,(ls.flatMap Lad.ps).length<=(ls.map Lad.parts).sum:=by
   intro ls
   induction ls with
   | nil=>exact Nat.le_refl _
   | cons l r ih =>
    rw [List.flatMap_cons,List.length_append,List.map_cons,List.sum_cons,Lad.ps_length]
    have:=l.len_parts
    omega
  have:=key (rkT b ρ (.cons k g m r))
  rw [e1,Nat.mul_add,Nat.mul_add,Nat.mul_one] at s1
  exact Nat.le_trans (Nat.le_trans this s1) (by omega)
end Gr
theorem Gr.rk_okU {b:Bk} {ρ:Str->Lad} {ns:List Str} {x:Nat} (hk:∀ n ∈ ns,(ρ n).Ok (2 ^ x)) {g:Gr} (hn:Named ns g) (ho:g.Ok (2 ^ 210)):(rk b ρ g).Ok (2 ^ (x+212*g.parts)):=by
 obtain ⟨n1,n2⟩:=rk_numsU (b:=b) hk hn ho
 exact Lad.bths_ok n1 (by have:=z0b (x+212*g.parts); omega) (Int.le_refl _) n2
def z2t (K:PySem.W.Frag):Sp:=fun vs H Q _=>∃ (v:V) (l:Lad) (m:Int),vs=[v,.int m]/\LA K H v l/\l.parts<=900000/\(∀ p ∈ l.ps,0<=p.2/\p.2 < 2 ^ 400000)/\0<=m/\m < 2 ^ 400000/\∀ (x:V) (H':Hp),SB [] H H'->LA K H' x (l.tms m)->Q x H'
def z19 (K:PySem.W.Frag) (C N:Addr):Sp:=fun vs H Q E=>∃ (v w:V) (b:Bk) (ρ:Str->Lad) (g:Gr),vs=[v,w]/\BkA K C H v b/\b.Ok/\OwnR b ρ/\GA K H w g/\g.deep < 20/\g.parts<=900/\Gr.Named b.names g/\(∀ x ∈ g.within,EndK b x.1.1)/\(∀ ns,(∀ n ∈ b.names,EndK b n->n ∈ ns)->Gr.FitZ b ρ ns g)/\∀ (x:V) (H':Hp),SB [] H H'->LA K H' x (Gr.rk b ρ g)->Q x H'
namespace Gr
variable {b:Bk} {ρ:Str->Lad} {ns:List Str} {C F n:Int} {g X fr:Gr} {p:Tr × Int}
theorem Goods0.of {b:Bk} {ρ:Str->Lad} (ok:b.Ok) (hR:RB b ρ) (nf:NoF b ρ):Goods0 b ρ b.names:=⟨hR,fun n hn kd e r hr=>ok.named (Bk.get_some e).1 hr,fun n hn kd e r hr=>by
 obtain ⟨hk,rfl⟩:=Bk.get_some e
 rcases List.mem_cons.mp hr with z | z
 ·rw [z,show clm b ρ noR=Lad.uno from z9h b ρ]
  exact Lad.uno_le (hR _ hn).1 (hR _ hn).2
 ·exact nf kd hk r z⟩
theorem rkt_ne0 (G:Goods0 b ρ ns) {t:Tr} (hk:t.1 ∈ ns) (ho:t.2.Ok C) (hn:Named ns t.2):rkt b ρ t ≠ .nil:=by
 intro z
 have h1:=Lad.le_lad1 (w:=b.wide t.1) (G.rt _ hk).1 (rk_R (b:=b) ho (RN.named G.rt hn)) (G.rt _ hk).2
 have h2:Lad.Le (ρ t.1) .nil:=by
  rw [<- z]; exact h1
 rcases h2.cases with e | e
 ·exact (G.rt _ hk).2 e
 ·rw [Lad.lt_nil_r] at e; cases e
theorem rk_ne0 (G:Goods0 b ρ ns) (h:g.Ok C) (hn:Named ns g) (hg:g ≠ .nil):rk b ρ g ≠ .nil:=by
 cases g with
 | nil=>exact absurd rfl hg
 | cons k i m r =>
  have hp:((k,i),m) ∈ (Gr.cons k i m r).ps:=mcs ..
  obtain ⟨h1,h2⟩:=named_iff.mp hn _ hp
  have ho:=(ok_mem h hp).2.1
  intro z
  have e:=rk_take0 G h hn hp
  rw [z] at e
  have h3:Lad.Le (rkt b ρ (k,i)) .nil:=by
   rw [e,Lad.bth_comm]
   exact Lad.le_bth (rkt_R0 G h1 ho h2) (G_R0 G (wo_ok h (by decide)) (named_wo hn _ _))
  rcases h3.cases with e | e
  ·exact rkt_ne0 G h1 ho h2 e
  ·rw [Lad.lt_nil_r] at e; cases e
theorem rk_nilI (G:Goods0 b ρ ns) (h:g.Ok C) (hn:Named ns g):rk b ρ g=.nil ↔ g=.nil :=
 ⟨fun z=>Classical.byContradiction fun e=>rk_ne0 G h hn e z,fun z=>by rw [z]; exact rk_nil⟩
end Gr
structure At48 (b:Bk) (j:Nat) (g:Gr):Prop where
 ok:g.Ok (2 ^ 132*((j:Int)+1))
 parts:g.parts<=736
 deep:g.deep<=16
 named:Gr.Named b.names g
theorem At48.next {b:Bk} {j:Nat} {g:Gr} (h:At48 b j g) (gd:g.deep<=12) (gp:g.parts<=60) {n:Int} (n0:0<=n) (nb:n < 10 ^ 30) {r:Ru} (rok:RuOk r/\Gr.Named b.names r.1/\Gr.Named b.names r.2) {pl:Pl} {k:Str} (hb:Gr.bareAt g pl=some k):At48 b (j+1) (Gr.stk b n (Gr.grw r n) pl g).1:=by
 have go:=Gr.grw_ok rok.1 n0
 have gp':=Gr.grw_parts rok.1 n
 have gd':=Gr.grw_deep rok.1 n
 have r4:=rok.1.2.2
 obtain ⟨b1,b2⟩:=Gr.stk_bound (b:=b) (n:=n) (D:=0) hb gd gp (show (Gr.grw r n).deep<=4 by omega) (show (Gr.grw r n).parts<=4 by omega)
 refine ⟨(Gr.stk_ok n0 (show (1:Int)<=1000000001*n+2000000002 by omega) go h.ok hb).mono ?_,b1,b2,Gr.stk_named (Gr.named_tgt rok.2.1 (Gr.named_tms rok.2.2 n)) hb h.named⟩
 have e:(2:Int) ^ 132*(((j+1:Nat):Int)+1)=2 ^ 132*((j:Int)+1)+2 ^ 132:=by
  rw [Int.natCast_add,Int.mul_add,Int.mul_one,show ((1:Nat):Int)=1 from rfl,Int.mul_add,Int.mul_one]
 rw [e]
 have h2:(1000000001:Int)*10 ^ 30+10 ^ 30+2000000004<=2 ^ 132:=by decide
 omega
def rlV (b:Bk):List V:=b.map fun k=>V.int ((k.rs.length:Nat):Int)
def RulA (H:Hp) (d:Addr) (b:Bk):Prop:=H d=some (.dK (zk b.names (rlV b)))
theorem RulA.val {H:Hp} {d:Addr} {b:Bk} {k:Kd} (h:RulA H d b) (nd:b.names.Nodup) (hk:k ∈ b):DGet H d (.str k.n) (some (.int ((k.rs.length:Nat):Int))):=by
 have ul:(rlV b).length=b.names.length:=by rw [rlV,List.length_map,Bk.names,List.length_map]
 have kn:((zk b.names (rlV b)).map (·.1)).Nodup:=by
  rw [z5b ul]
  exact List.Pairwise.map _ (fun a b h z=>h (Sum.inr.inj z)) nd
 have hm:((Sum.inr k.n:Key),V.int ((k.rs.length:Nat):Int)) ∈ zk b.names (rlV b):=by
  clear h kn ul nd
  induction b with
  | nil=>cases hk
  | cons a r ih =>
   show _ ∈ ((Sum.inr a.n:Key),V.int ((a.rs.length:Nat):Int))::zk (Bk.names r) (rlV r)
   rcases List.mem_cons.mp hk with e | e
   ·rw [e]; exact mcs ..
   ·exact mcm _ (ih e)
 exact getK h (z8t kn _ hm)
theorem zk5 {x:Pl × Str} (h:z02 x.2):plS (bkE x)=true:=by
 show plS (.tuple [.tuple (z0c x.1),.str x.2])=true
 simp [plS,plSs,z7h,Gr.strOk_name h]
theorem zaj:∀ {cs:List (Pl × Str)},(∀ x ∈ cs,z02 x.2)->plSs (cs.map bkE)=true
 | [],_=>by simp [plSs]
 | c::cs,h=>by rw [List.map_cons,plSs,zk5 (h c (mcs ..)),zaj fun x hx=>h x (mcm _ hx)]; rfl
theorem zbr (x:Pl × Str):(bkE x).depth=2:=by
 show PyData.depth (.tuple [z0d x.1,.str x.2])=2
 simp [PyData.depth,PyData.depthAll,z7j]
theorem z9z {cs:List (Pl × Str)} (h:∀ x ∈ cs,z02 x.2):SeqAt.shaped (.list (cs.map bkE))=true:=z9c (zaj h) (Nat.le_trans (z50 (n:=2) fun d hd=>by
 obtain ⟨c,_,rfl⟩:=List.mem_map.mp hd
 rw [zbr]; omega) (by omega))
theorem zcv (cs:List (Pl × Str)):PyData.eqv (.list (cs.map bkE)) (.list [])=decide (cs=[]):=by
 cases cs with
 | nil=>decide +kernel
 | cons z r=>simp [PyData.eqv,PyData.eqvAll]
abbrev Fa:=Pl × Nat × Int
def faE (f:Fa):PyData:=.tuple [z0d f.1,.int (f.2.1:Nat),.int f.2.2]
def fgE (x:Fa × Gr):PyData:=.tuple [faE x.1,x.2.enc]
theorem z05 (f:Fa):z03 (faE f)=true:=by simp [faE,z03,z07,z08]
theorem z0m (x:Fa × Gr):z03 (fgE x)=true:=by simp [fgE,z03,z07,z05,Gr.noList_enc]
abbrev plF (bv:V) (ls ld lu:Addr):List (Str × V):=[("book",bv),("stood",.ref ls),("done",.ref ld),("undone",.ref lu)]
structure Ply (K:PySem.W.Frag) (C:Addr) (H:Hp) (bv:V) (a ls ld lu:Addr) (gs:List Gr) (ds:List Fa) (us:List (Fa × Gr)):Prop where
 ins:∃ dx,H a=some (.ins C dx (plF bv ls ld lu))
 st:∃ vs,H ls=some (.lst vs)/\Bears K H Gr.enc vs gs
 dn:∃ vs,H ld=some (.lst vs)/\Bears K H faE vs ds
 un:∃ vs,H lu=some (.lst vs)/\Bears K H fgE vs us
 n1:ls ≠ ld
 n2:ls ≠ lu
 n3:ld ≠ lu
section
variable {K:PySem.W.Frag} {C:Addr} {H H':Hp} {bv:V} {a ls ld lu:Addr} {gs:List Gr} {ds:List Fa} {us:List (Fa × Gr)} {ps:List Addr}
theorem Ply.sb (h:Ply K C H bv a ls ld lu gs ds us) (e:SB ps H H') (na:a ∉ ps) (n1:ls ∉ ps) (n2:ld ∉ ps) (n3:lu ∉ ps):Ply K C H' bv a ls ld lu gs ds us:=by
 obtain ⟨⟨dx,h0⟩,⟨v1,h1,b1⟩,⟨v2,h2,b2⟩,⟨v3,h3,b3⟩,m1,m2,m3⟩:=h
 exact ⟨⟨dx,e.keep _ _ h0 na⟩,⟨v1,e.keep _ _ h1 n1,b1.sb e Gr.noList_enc⟩,⟨v2,e.keep _ _ h2 n2,b2.sb e z05⟩,⟨v3,e.keep _ _ h3 n3,b3.sb e z0m⟩,m1,m2,m3⟩
theorem Ply.sb0 (h:Ply K C H bv a ls ld lu gs ds us) (e:SB [] H H'):Ply K C H' bv a ls ld lu gs ds us:=h.sb e (by simp) (by simp) (by simp) (by simp)
theorem Bears.last {β:Type} {enc:β->PyData} {b:β}:∀ {bs:List β} {vs:List V},Bears K H enc vs (bs++[b])->∃ us u,vs=us++[u]/\Bears K H enc us bs/\Dp K H u (enc b)
 | [],_,.cons h .nil=>⟨[],_,rfl,.nil,h⟩
 | _::bs,_,.cons h t=>by
  obtain ⟨us,u,e,h1,h2⟩:=Bears.last (bs:=bs) t
  exact ⟨_::us,u,by rw [e]; rfl,.cons h h1,h2⟩
theorem z2c {α:Type} {us:List α} {u:α}:atI (us++[u]) (-1)=some u:=zgn (by simp)
end
def z6z (K:PySem.W.Frag) (C CB:Addr):Sp:=fun vs H Q _=>∃ (x dx:Addr) (bv gv:V) (b:Bk) (g:Gr),vs=[.ref x,bv,gv]/\H x=some (.ins C dx [])/\BkA K CB H bv b/\b.length<=60/\GA K H gv g/\g.deep<=68/\g.parts<=3000/\Gr.Named b.names g/\∀ (ls ld lu:Addr) (H':Hp),SB [x] H H'->H ls=none->H ld=none->H lu=none->Ply K C H' bv x ls ld lu [g] [] []->Q .non H'
def z1h (K:PySem.W.Frag) (C:Addr):Sp:=fun vs H Q _=>∃ (a ls ld lu:Addr) (bv:V) (gs:List Gr) (g:Gr) (ds:List Fa) (us:List (Fa × Gr)),vs=[.ref a]/\Ply K C H bv a ls ld lu (gs++[g]) ds us/\∀ v,GA K H v g->Q v H
def z4w (K:PySem.W.Frag) (C:Addr):Sp:=fun vs H Q _=>∃ (a ls ld lu:Addr) (bv:V) (gs:List Gr) (ds:List Fa) (us:List (Fa × Gr)),vs=[.ref a]/\Ply K C H bv a ls ld lu gs ds us/\∀ (l:Addr) (ws:List V) (H':Hp),SB [] H H'->H l=none->H' l=some (.lst ws)->Bears K H' faE ws ds->Q (.ref l) H'
def z2p (K:PySem.W.Frag) (C CB NP NR NN TG:Addr):Sp:=fun vs H Q E=>∃ (a ls ld lu pa:Addr) (bv x y:V) (b:Bk) (gs:List Gr) (g:Gr) (ds:List Fa) (us:List (Fa × Gr)) (D:Int) (xs:List V) (os:List (Option Int)) (ro so:Option Int),vs=[.ref a,.ref pa,x,y] /\
 (Ply K C H bv a ls ld lu (gs++[g]) ds us/\gs.length<=1000/\ds.length<=1000)/\(BkA K CB H bv b/\b.Ok)/\(g.Ok D/\g.deep<=60/\g.parts<=2000/\Gr.Named b.names g)/\(SqT K H pa xs/\Whs K H xs os)/\Wh K H x ro/\Wh K H y so/\(∀ n,so=some n->n < 2 ^ 900) /\
 ((∀ pl k,os=plO pl->Gr.bareAt g pl ≠ some k)->∀ H',SB [] H H'->E (.ref NP) none H') /\
 ∀ (pl:Pl) (k:Str) (kd:Kd),os=plO pl->Gr.bareAt g pl=some k->b.get k=some kd ->
  ((∀ i:Nat,ro=some (i:Int)->(noR::kd.rs)[i]?=none)->∀ H',SB [] H H'->E (.ref NR) none H') /\
  ∀ (i:Nat) (r:Ru),ro=some (i:Int)->(noR::kd.rs)[i]?=some r ->
   ((∀ n,so=some n->n < 0)->∀ H',SB [] H H'->E (.ref NN) none H') /\
   ∀ n:Int,so=some n->0<=n ->
    (¬ z0z (Gr.stk b n (Gr.grw r n) pl g).1->∀ H',SB [] H H'->E (.ref TG) none H') /\
    (z0z (Gr.stk b n (Gr.grw r n) pl g).1->∀ (lu':Addr) (p:V) (H':Hp),SB [a,ls,ld] H H'->H lu'=none->Ply K C H' bv a ls ld lu' (gs++[g]++[(Gr.stk b n (Gr.grw r n) pl g).1]) (ds++[(pl,i,n)]) []->Dp K H' p (z0d (Gr.stk b n (Gr.grw r n) pl g).2)->Q p H')
def z44 (K:PySem.W.Frag) (C NF:Addr):Sp:=fun vs H Q E=>∃ (a ls ld lu:Addr) (bv:V) (gs:List Gr) (ds:List Fa) (us:List (Fa × Gr)),vs=[.ref a]/\Ply K C H bv a ls ld lu gs ds us/\us.length<=1000/\(ds=[]->∀ H',SB [] H H'->E (.ref NF) none H') /\
 (ds ≠ []->∃ (g0:List Gr) (h g:Gr) (d0:List Fa) (f:Fa),gs=g0++[h]++[g]/\ds=d0++[f]/\∀ (v:V) (H':Hp),SB [ls,ld,lu] H H'->Ply K C H' bv a ls ld lu (g0++[h]) d0 (us++[(f,g)])->GA K H' v h->Q v H')
def z8v (K:PySem.W.Frag) (C NF:Addr):Sp:=fun vs H Q E=>∃ (a ls ld lu:Addr) (bv:V) (gs:List Gr) (ds:List Fa) (us:List (Fa × Gr)),vs=[.ref a]/\Ply K C H bv a ls ld lu gs ds us/\gs.length<=1000/\ds.length<=1000/\(us=[]->∀ H',SB [] H H'->E (.ref NF) none H') /\
 (us ≠ []->∃ (u0:List (Fa × Gr)) (f:Fa) (g:Gr),us=u0++[(f,g)]/\∀ (v:V) (H':Hp),SB [ls,ld,lu] H H'->Ply K C H' bv a ls ld lu (gs++[g]) (ds++[f]) u0->GA K H' v g->Q v H')
def fl (b:Bk) (g:Gr) (f:Fa):Gr × Pl:=match Gr.bareAt g f.1 with
 | none=>(g,[])
 | some k=>match b.get k with
  | none=>(g,[])
  | some kd=>match (noR::kd.rs)[f.2.1]? with
   | none=>(g,[])
   | some r=>Gr.stk b f.2.2 (Gr.grw r f.2.2) f.1 g
structure FlAt (b:Bk) (g:Gr) (f:Fa) (k:Str) (kd:Kd) (r:Ru):Prop where
 bare:Gr.bareAt g f.1=some k
 get:b.get k=some kd
 rule:(noR::kd.rs)[f.2.1]?=some r
 n0:0<=f.2.2
 n1:f.2.2 < 10 ^ 59
theorem FlAt.eq {b:Bk} {g:Gr} {f:Fa} {k:Str} {kd:Kd} {r:Ru} (h:FlAt b g f k kd r):fl b g f=Gr.stk b f.2.2 (Gr.grw r f.2.2) f.1 g:=by
 unfold fl; rw [h.bare]; dsimp only; rw [h.get]; dsimp only; rw [h.rule]
structure Std (b:Bk) (m:Nat) (g:Gr):Prop where
 ok:g.Ok (10 ^ 30+1+(m:Int)*10 ^ 70)
 deep:g.deep<=60
 parts:g.parts<=2000
 nm:Gr.Named b.names g
theorem FlAt.facts {b:Bk} (ok:b.Ok) {g:Gr} {f:Fa} {k:Str} {kd:Kd} {r:Ru} (h:FlAt b g f k kd r):RuOk r/\(∀ p ∈ Ru.within r,p.1.1 ∈ b.names)/\f.2.2 < 2 ^ 900:=by
 obtain ⟨km,ekn⟩:=Bk.get_some h.get
 obtain ⟨_,_,rr⟩:=ok.kd kd km
 exact ⟨za6 (fun r hr=>(rr r hr).1) h.rule,zb3 (fun r hr=>(rr r hr).2) h.rule,Int.lt_trans h.n1 (by decide +kernel)⟩
theorem zhx (f:Fa):plS (faE f)=true:=by simp [faE,plS,plSs,z0d,z7h]
theorem zbc:∀ ds:List Fa,plSs (ds.map faE)=true
 | []=>rfl
 | f::r=>by rw [List.map_cons,plSs,zhx,zbc r]; rfl
theorem zcd (f:Fa):(faE f).depth=2:=by
 show PyData.depth (.tuple [z0d f.1,.int _,.int _])=2
 simp only [PyData.depth,PyData.depthAll,z7j]
 omega
instance:Orderly faE where
 al a b:=by simp [faE,alike,alikeAll,Orderly.al (enc:=z0d) a.1 b.1]
 eq a b:=by
  simp only [faE,PyData.eqv,PyData.eqvAll,Orderly.eq (enc:=z0d),Bool.and_true,ib]
  by_cases h:a=b
  ·subst h; simp
  ·rw [decide_eq_false h]
   refine Bool.eq_false_iff.mpr fun z=>h ?_
   simp only [Bool.and_eq_true,decide_eq_true_eq] at z
   exact Prod.ext z.1 (Prod.ext (by have:=z.2.1; omega) z.2.2)
theorem z7w:∀ ds:List Fa,PyData.depthAll (ds.map faE)<=2
 | []=>by simp [PyData.depthAll]
 | f::r=>by
  have:=z7w r
  rw [List.map_cons,PyData.depthAll,zcd]
  omega
theorem zbo (ds:List Fa):Wd (.list (ds.map faE)):=⟨by rw [PyData.canLay0]; exact z41 _ (zbc ds),by
 rw [PyData.depth]; have:=z7w ds; omega⟩
theorem z97 {γ:Type} [DecidableEq γ] {enc:γ->PyData} [O:Orderly enc]:∀ as bs:List γ,PyData.eqvAll (as.map enc) (bs.map enc)=decide (as=bs)
 | [],[]=>by simp [PyData.eqvAll]
 | [],b::bs=>by simp [PyData.eqvAll]
 | a::as,[]=>by simp [PyData.eqvAll]
 | a::as,b::bs=>by
  rw [List.map_cons,List.map_cons,PyData.eqvAll,O.eq,z97 as bs]
  by_cases h:a=b <;> by_cases h2:as=bs <;> simp [h,h2]
theorem zh2 (as bs:List Fa):PyData.eqv (.list (as.map faE)) (.list (bs.map faE))=decide (as=bs):=by
 rw [PyData.eqv]; exact z97 as bs
theorem zgu {K:PySem.W.Frag} {C NP NR NN TG:Addr} {H:Hp} {v w:V} {a:Addr} {b:Bk} {g:Gr} {m:Nat} {f:Fa} {k:Str} {kd:Kd} {r:Ru} {Q:VK} {E:XK} (hv:BkA K C H v b) (ok:b.Ok) (hw:GA K H w g) (st:Std b m g) (ha:SqT K H a (f.1.map fun n:Nat=>V.int (n:Int))) (h:FlAt b g f k kd r)
  (q:z0z (fl b g f).1->∀ (t:Addr) (H':Hp),SB [] H H'->H t=none->Dp K H' (.ref t) (gpE (fl b g f))->Q (.ref t) H') (qE:¬ z0z (fl b g f).1->∀ H',SB [] H H'->E (.ref TG) none H'):z1c K C NP NR NN TG [v,w,.ref a,.int (f.2.1:Nat),.int f.2.2] H Q E:=by
 rw [h.eq] at q qE
 exact zc0 rfl hv ok hw st.ok st.deep st.parts st.nm ha h.bare h.get h.rule h.n0 (h.facts ok).2.2 q qE
theorem zbt {K:PySem.W.Frag} {C CB NP NR NN TG:Addr} {H:Hp} {bv:V} {a ls ld lu pa:Addr} {b:Bk} {gs:List Gr} {g:Gr} {ds:List Fa} {us:List (Fa × Gr)} {m:Nat} {f:Fa} {k:Str} {kd:Kd} {r:Ru} {Q:VK} {E:XK} (ply:Ply K C H bv a ls ld lu (gs++[g]) ds us) (gl:gs.length<=1000) (dl:ds.length<=1000) (hv:BkA K CB H bv b) (ok:b.Ok) (st:Std b m g) (ha:SqT K H pa (f.1.map fun n:Nat=>V.int (n:Int))) (h:FlAt b g f k kd r)
  (q:z0z (fl b g f).1->∀ (lu':Addr) (pv:V) (H':Hp),SB [a,ls,ld] H H'->H lu'=none->Ply K C H' bv a ls ld lu' (gs++[g]++[(fl b g f).1]) (ds++[f]) []->Dp K H' pv (z0d (fl b g f).2)->Q pv H') (qE:¬ z0z (fl b g f).1->∀ H',SB [] H H'->E (.ref TG) none H'):z2p K C CB NP NR NN TG [.ref a,.ref pa,.int (f.2.1:Nat),.int f.2.2] H Q E:=by
 obtain ⟨_,_,nb⟩:=h.facts ok
 rw [h.eq] at q qE
 obtain ⟨h1,h2,h3,h4,h5⟩:=h
 obtain ⟨pl,i,n⟩:=f
 refine ⟨a,ls,ld,lu,pa,bv,.int (i:Nat),.int n,b,gs,g,ds,us,_,_,plO pl,some (i:Int),some n,rfl,⟨ply,gl,dl⟩,⟨hv,ok⟩,⟨st.ok,st.deep,st.parts,st.nm⟩,⟨ha,Whs.pl K H pl⟩,.inl ⟨_,rfl,rfl⟩,.inl ⟨_,rfl,rfl⟩,fun z e=>by cases e; exact nb,fun hno=>absurd h1 (hno pl k rfl),fun pl' k' kd' e1 e2 e3=>?_⟩
 obtain rfl:=z87 e1
 obtain rfl:k=k':=Option.some.inj (h1.symm.trans e2)
 obtain rfl:kd=kd':=Option.some.inj (h2.symm.trans e3)
 refine ⟨fun hno=>absurd (hno i rfl) (by rw [show (noR::kd.rs)[i]?=some r from h3]; simp),fun i' r' e4 e5=>?_⟩
 obtain rfl:i=i':=by have:=Option.some.inj e4; omega
 obtain rfl:r=r':=Option.some.inj (h3.symm.trans e5)
 refine ⟨fun hneg=>absurd (hneg n rfl) (by have:0<=n:=h4; omega),fun n' e6 _=>?_⟩
 cases e6
 exact ⟨qE,q⟩
section
variable {K:PySem.W.Frag} {C CB:Addr} {H H':Hp} {bv:V} {b:Bk} {g0:Gr} {a ls ld lu:Addr} {ds:List Fa} {us:List (Fa × Gr)} {n:Nat} {ps:List Addr}
def Ftp (H:Hp) (C:Addr) (ps:List Addr):Prop:=∀ p ∈ ps,H p=none\/(∃ xs,H p=some (.lst xs))\/∃ dx fs,H p=some (.ins C dx fs)/\fs.length=4
theorem BkA.sbF (h:BkA K CB H bv b) (e:SB ps H H') (hf:Ftp H C ps):BkA K CB H' bv b:=by
 obtain ⟨a,dx,d1,d2,us,rfl,h1,h2,h3,h4⟩:=h
 refine ⟨a,dx,d1,d2,us,rfl,e.keep _ _ h1 fun z=>?_,e.keep _ _ h2 fun z=>?_,e.keep _ _ h3 fun z=>?_,h4.sb e Kd.noList_rowE⟩
 ·rcases hf _ z with q | ⟨xs,q⟩ | ⟨dx,fs,q,l⟩ <;> rw [h1] at q <;> cases q
  exact absurd (show 2=4 from l) (by decide)
 ·rcases hf _ z with q | ⟨xs,q⟩ | ⟨dx,fs,q,_⟩ <;> rw [h2] at q <;> cases q
 ·rcases hf _ z with q | ⟨xs,q⟩ | ⟨dx,fs,q,_⟩ <;> rw [h3] at q <;> cases q
theorem Ply.ftp {gs:List Gr} (h:Ply K C H bv a ls ld lu gs ds us):Ftp H C [a,ls,ld,lu]:=by
 obtain ⟨⟨dx,h0⟩,⟨v1,h1,_⟩,⟨v2,h2,_⟩,⟨v3,h3,_⟩,_⟩:=h
 intro p hp
 simp only [List.mem_cons,nmn,or_false] at hp
 rcases hp with rfl | rfl | rfl | rfl
 ·exact .inr (.inr ⟨dx,_,h0,rfl⟩)
 ·exact .inr (.inl ⟨_,h1⟩)
 ·exact .inr (.inl ⟨_,h2⟩)
 ·exact .inr (.inl ⟨_,h3⟩)
theorem Ftp.sub {qs:List Addr} (h:Ftp H C ps) (e:∀ q ∈ qs,q ∈ ps):Ftp H C qs:=fun p hp=>h p (e p hp)
end
instance strOrd:Orderly PyData.str where
 al a b:=by simp [alike]
 eq a b:=by simp [PyData.eqv,Gr.sb]
section
variable {K:PySem.W.Frag} {C CB:Addr} {H H':Hp} {bv:V} {b:Bk} {a ls ld lu r l0 l1 l2:Addr} {gs:List Gr} {ds:List Fa} {us:List (Fa × Gr)} {n:Nat} {ps:List Addr}
theorem Ftp.one {p:Addr} {xs:List V} (h:H p=some (.lst xs)):Ftp H C [p]:=fun x hx=>.inr (.inl ⟨xs,by rw [List.mem_singleton.mp hx]; exact h⟩)
end
end FT
namespace L2
open PySem PySem.Spec PyProof.Rows
def KeepE (a:Addr) (cls:Value) (d:Option Addr):HO:=.ext fun h=>∃ (oe:Obj) (vs:Array Value),h.get? a=some oe/\Zc cls d oe/\oe.data=.fields vs
section
variable {X:Cx} {pins:List (Addr × Obj)} {σ:St} {H:Hp} {s:Shared}
theorem Inv.learn {a:Addr} {oe:Obj} {vs:Array Value} {cls:Value} {d:Option Addr} (I:Inv X pins σ H s) (ha:s.heap.get? a=some oe) (hz:Zc cls d oe) (hd:oe.data=.fields vs) (na:H a=none) (n0:X.s_0.heap.get? a=none) (nL:a ≠ X.env.locals) (np:∀ p ∈ X.pn++pins,p.1 ≠ a) :
  Inv X pins σ (upd H a (KeepE a cls d)) s:=by
 have ne0:∀ b o,X.s_0.heap.get? b=some o->b ≠ a:=fun b o e z=>by rw [z,n0] at e; cases e
 have neH:∀ b o,H b=some o->b ≠ a:=fun b o e z=>by rw [z,na] at e; cases e
 refine ⟨I.ok,I.os,I.bare,⟨I.base.keep,I.base.slot,fun b o e n hx=>?_,I.base.there,fun b xs e=>?_,fun b o u e=>?_,fun b ps e=>?_⟩,I.loc,I.cell,?_,fun x c e=>?_,fun p hp=>?_,?_,I.len⟩
 ·rw [upd_ne (ne0 b o e)]; exact I.base.free b o e n hx
 ·have q:=I.base.tups b xs e
  rw [upd_ne (neH _ _ q)]; exact q
 ·have q:=I.base.frzs b o u e
  rw [upd_ne (neH _ _ q)]; exact q
 ·obtain ⟨more,q⟩:=I.base.tbls b ps e
  exact ⟨more,by rw [upd_ne (neH _ _ q)]; exact q⟩
 ·rw [upd_ne nL.symm]; exact I.free
 ·obtain ⟨v,o,ho,hc⟩:=I.cell x c e
  have:c ≠ a:=fun z=>by rw [z,ha] at ho; cases ho; rw [hd] at hc; cases hc
  rw [upd_ne this]; exact I.freeC x c e
 ·obtain ⟨h1,h2,h3⟩:=I.pin p hp
  exact ⟨h1,by rw [upd_ne (np p hp)]; exact h2,h3⟩
 ·intro b o e
  by_cases hb:b=a
  ·rw [hb] at e ⊢
   rw [upd_same] at e; cases e
   exact ⟨⟨oe,vs,ha,hz,hd⟩,⟨_,ha⟩,fun h1 h2 ⟨o1,v1,q1,q2,q3⟩ k=>⟨o1,v1,k _ q1,q2,q3⟩⟩
  ·rw [upd_ne hb] at e
   exact (I.hok b o e).stay (fun c v _ q=>q) (fun c q=>by rw [upd_ne (neH _ _ q)]; exact q) fun c xs q=>by rw [upd_ne (neH _ _ q)]; exact q
end
def wAsK (K:PySem.W.Frag) (c:Value) (i:Nat) (ts:Addr->Value->Option Addr->TS) (Wout:WX) (D:Ends):WX:=fun cls d σ H =>
 ∃ b,PySem.W.exmOne K cls c=some b/\(b=true->∀ a,H a=none->ts a cls d { nx:=fun σ' H'=>H' a=none/\D.nx (σ'.set i none) (upd H' a (KeepE a cls d)),rt:=D.rt,bk:=fun σ' H'=>D.bk (σ'.set i none) H',ct:=fun σ' H'=>D.ct (σ'.set i none) H' } (σ.set i (some (.ref a))) H) /\
  (b=false->Wout cls d σ H)
section
variable {X:Cx} {x n:Str} {c:Value} {i:Nat} {body suite:List Stmt} {b₀:Stmt} {np pos pos':Pos} {tb:WX->TS} {ts:Addr->Value->Option Addr->TS} {Wout:WX}
theorem ps_try_asK (hx:X.ex=[]) (hs:X.stack=X.env::X.outer) (hf:X.env.frame=some X.env.locals) (hN:X.N.Nodup) (hi:X.N[i]?=some n) (hln:X.env.kindOf n=some .local) (hc:Names X x c) (tk:Takes X Wout)
  (hb:∀ (W:WX) (pn:List (Addr × Obj)) (xe:Value->Shared->Prop),Takes (X.tr pn xe) W->PassesOwn (model X.prog X.w) X.A X.env xe->PSs (X.tr pn xe) body (tb W))
  (hsu:∀ (a:Addr) (oe:Obj) (cls:Value) (d:Option Addr) (pn:List (Addr × Obj)),Zc cls d oe->(∃ vs,oe.data=.fields vs)->PSs (X.suite a ((a,oe)::pn)) (b₀::suite) (ts a cls d)) :
  PS X (.Try body [.ExceptHandler (some (.Name x np)) (some n) (b₀::suite) pos'] [] [] pos) (fun D σ H=>tb (wAsK X.K c i ts Wout D) D σ H):=by
 refine ⟨fun pins s σ H D I h=>?_⟩
 have ok:=I.ok
 have hfr:X.A.frames=some (X.env::X.outer):=by rw [ok.frames,hs]
 have hloc:Loc X.env.scope n:=.inl hln
 refine wpAny_Try_except ?_
 refine wpAny_mono ((hb (wAsK X.K c i ts Wout D) (X.pn++pins) (fun e s₁=>wpAny (model X.prog X.w) X.A (noteFrame e X.env) (fun _ s₂=>wpAny (model X.prog X.w) X.A (setFlight e none) (fun _ s₃ =>
  wpAny (model X.prog X.w) X.A (handleBy e X.env [.ExceptHandler (some (.Name x np)) (some n) (b₀::suite) pos']) (SP X pins D) X.xe s₃) X.xe s₂) X.xe s₁) (fun u s' xx=>?_) PassesOwn.looking).run [] s σ H D (I.toTry _) h) (fun f s1 hsp=>?_) (fun e s1 he=>he)
 ·-- the catch
  obtain ⟨a,B,sI,pins',σ',H',cls,d,rfl,J',nb,up,sky,na,os,ag,b,hb1,hyes,hno⟩:=xx
  have J:Inv X pins σ' H' sI:=J'.ofTry ok
  have sky':Sky B (X.env::X.outer) a (Zc cls d) X.env.locals s'.heap:=by rw [<- hs]; exact sky
  show wpAny (model X.prog X.w) X.A (noteFrame (.ref a) X.env) _ _ _
  refine Sky.land Zc.steady hfr hf sky' fun h3 fl3 up3=>?_
  have J3:Inv X pins σ' H' { s' with heap:=h3 }:=J.landed nb fl3.1 (up.trans up3) os ag
  obtain ⟨oe3,vs3,he3,hz3,hd3⟩:=fl3.there
  have notFr:∀ {h:Heap} {o:Obj} {vs:Array Value},h.FunFrames B (X.env::X.outer)->h.get? a=some o->o.data=.fields vs->a ∉ frs (X.env::X.outer):=fun {h o vs} ff e dd hm=>by
   obtain ⟨_,o',e',hnf⟩:=ff.mem hm
   rw [e] at e'; cases e'
   exact hnf _ dd
  have nfr:=notFr fl3.2.2.1 he3 hd3
  have nL:a ≠ X.env.locals:=fun z=>nfr (List.mem_filterMap.mpr ⟨X.env,FT.mcs,by rw [hf,z]⟩)
  have nF:a ∉ X.fs:=fun hm=>by
   obtain ⟨e,he,q⟩:=List.mem_filterMap.mp hm
   exact nfr (List.mem_filterMap.mpr ⟨e,FT.mcm _ he,q⟩)
  have S3:=J3.suite he3 hd3 na nL nF
  have nI:sI.heap.get? a=none:=by
   cases e:sI.heap.get? a with
   | none=>rfl
   | some o =>
    have q:=nb a o e (by rw [hs]; exact nfr)
    rw [fl3.2.1] at q; cases q
  have n0:X.s_0.heap.get? a=none:=by
   cases e:X.s_0.heap.get? a with
   | none=>rfl
   | some o =>
    obtain ⟨o',q⟩:=J.base.there a o e (by rw [hx]; exact fun z=>nomatch z)
    rw [nI] at q; cases q
  have nP:∀ p ∈ X.pn++pins,p.1 ≠ a:=fun p hp z=>by
   have q:=(J.pin p hp).1
   rw [z,nI] at q; cases q
  refine wpAny_handleBy_cons (codeAny_handlers_test ?_) (by intro q; cases q)
  have LT:PySem.W.Looks (model X.prog X.w) h3 (typeOf (.ref a)) cls:=fun A Q E s k q=>wpAny_typeOf_ref (k _ _ he3) (by rw [hz3.1]; exact q)
  have LM:=PySem.W.exm_one (M:=model X.prog X.w) (J3.kIn) LT hb1
  have test:∀ {Q:Value->Shared->Prop} {E:Value->Shared->Prop},Q c { s' with heap:=h3 }->wpAny (model X.prog X.w) (X.A.mark (some (.ref a))) (eval (.Name x np) X.env) Q E { s' with heap:=h3 }:=fun {Q E} q=>by
   obtain ⟨hg,hdbg,hm | ⟨hm,hv,hnn⟩⟩:=hc
   ·exact ld_glob (X:=X.suite a ((a,oe3)::(X.pn++pins))) S3 hg hm q hdbg
   ·exact ld_blt (X:=X.suite a ((a,oe3)::(X.pn++pins))) S3 hg hm hv q hnn hdbg
  refine test (LM.here ?_)
  cases b with
  | true =>
   refine codeAny_handlers_suite_as ?_
   refine HandSPX.lands_againZ fl3 fun h4 fl4 up4=>?_
   have J4:Inv X pins σ' H' { s' with heap:=h4 }:=J.landed nb fl4.1 ((up.trans up3).trans up4) os ag
   obtain ⟨oe4,vs4,he4,hz4,hd4⟩:=fl4.there
   have S4:=J4.suite he4 hd4 na nL nF
   refine store_ok (X:=X.suite a ((a,oe4)::(X.pn++pins))) (v:=.ref a) S4 hN hi hloc rfl (fun s5 S5=>?_) (.inr hln)
   refine wpAny_mono ((hsu a oe4 cls d (X.pn++pins) hz4 ⟨_,hd4⟩).run [] s5 _ H' _ S5 (hyes rfl a na)) (fun f s6 hsp=>?_) (fun _ _ z=>False.elim z)
   have end_:∀ {σ6:St} {H6:Hp} {Q:Shared->Prop},Inv (X.suite a ((a,oe4)::(X.pn++pins))) [] σ6 H6 s6->(∀ s7,Inv X pins (σ6.set i none) H6 s7->Q s7) ->
     wpAny (model X.prog X.w) X.A (do bindName X.env n .none; unbindBehindTheSuite X.env n pos') (fun _ s7=>Q s7) X.xe s6:=fun {σ6 H6 Q} S6 hq=>gone_ok (S6.unsuite ok) hN hi hln hq
   cases f with
   | next =>
    obtain ⟨σ6,H6,S6,q60,q6⟩:=hsp
    have S7:Inv X ((a,oe4)::pins) σ6 H6 s6:=(S6.unsuite (pins:=pins) ok).pins_of (pins':=(a,oe4)::pins) fun p hp=>by
     rcases List.mem_cons.mp hp with e | e
     ·rw [e]; exact S6.pin (a,oe4) (FT.mal _ (FT.mcs ..))
     ·exact S6.pin p (FT.mal _ (FT.mcm _ (FT.mar _ e)))
    refine gone_ok S7 hN hi hln fun s7 J7=>⟨_,_,?_,q6⟩
    obtain ⟨p1,_⟩:=J7.pin (a,oe4) (FT.mar _ (FT.mcs ..))
    exact (J7.pins_of (pins':=pins) fun p hp=>J7.pin p ((List.mem_append.mp (FT.mar X.pn (FT.mcm (a,oe4) hp))).elim (fun h=>FT.mal _ h) fun h=>FT.mar _ h)).learn p1 hz4 hd4 q60 n0 nL nP
   | brk =>
    obtain ⟨σ6,H6,S6,q6⟩:=hsp
    exact end_ S6 fun s7 J7=>⟨_,_,J7,q6⟩
   | cont =>
    obtain ⟨σ6,H6,S6,q6⟩:=hsp
    exact end_ S6 fun s7 J7=>⟨_,_,J7,q6⟩
   | ret u =>
    obtain ⟨v6,σ6,H6,S6,r6,q6⟩:=hsp
    exact end_ S6 fun s7 J7=>⟨_,_,_,J7,r6,q6⟩
  | false =>
   show wpAny _ X.A (handleBy (.ref a) X.env []) _ _ _
   refine wpAny_handleBy_nil ?_
   obtain ⟨k1,k2,k3,oe,vs,T,oT,ts',he,hz,hd,h1,hr⟩:=id fl3
   unfold PySem.passOn
   refine wpAny_bind (wpAny_field he hd h1 ?_)
   rw [if_neg (show ¬ ((Value.ref T == Value.none)=true) from by simp)]
   have fin:wpAny (model X.prog X.w) X.A (setFlight (.ref a) X.env.frame) (fun _ s4=>wpAny (model X.prog X.w) X.A (throw (.ref a):Sem Flow) (SP X pins D) X.xe s4) X.xe { s' with heap:=h3 }:=by
    rw [hf]
    refine HandSPX.setFlight_upZ fl3 fun h4 hh4 up4=>wpAny_throw (tk _ _ ?_)
    exact ⟨a,B,sI,pins,σ',H',cls,d,rfl,J,nb,(up.trans up3).trans up4,.inr (.inr (by rw [hs]; exact hh4)),na,os,ag,hno rfl⟩
   first
    | exact wpAny_bind (wpAny_pure (wpAny_bind fin))
    | exact wpAny_bind fin
 ·cases f with
  | next =>
   obtain ⟨σ',H',J',q⟩:=hsp
   exact wpAny_execs_nil ⟨σ',H',J'.ofTry ok,q⟩
  | brk =>
   obtain ⟨σ',H',J',q⟩:=hsp
   exact ⟨σ',H',J'.ofTry ok,q⟩
  | cont =>
   obtain ⟨σ',H',J',q⟩:=hsp
   exact ⟨σ',H',J'.ofTry ok,q⟩
  | ret u =>
   obtain ⟨v,σ',H',J',r,q⟩:=hsp
   exact ⟨v,σ',H',J'.ofTry ok,r,q⟩
def rIsK (K:PySem.W.Frag):List V->Hp->VK->Prop:=fun xs H Q=>∃ (D a:Addr) (c:V) (cv:Value) (b:Bool),H a=some (KeepE a (.ref D) none)/\ExcC K D/\xs=[.ref a,c]/\(∀ u,RelV c u->u=cv)/\PySem.W.kitOne K (.ref D) cv=some b/\Q (.bl b) H
theorem call_isK:CallR X (.builtin "isinstance") (rIsK X.K):=by
 intro pins s σ H xs us Q I r h
 obtain ⟨D,a,c,cv,b,ha,C,rfl,hcv,e,q⟩:=h
 obtain ⟨u1,u2,rfl,r1,r2⟩:=vals2 r
 cases (show u1=Value.ref a from r1)
 cases hcv _ r2
 obtain ⟨⟨oe,vs,h1,h2,h3⟩,_⟩:=(show ObjOk X.prog X.w H s.heap a (KeepE a (.ref D) none) from I.hok a _ ha)
 obtain ⟨z1,z2⟩:=h2
 have J:PySem.W.InstAt s.heap a oe D none:=⟨h1,z1,by unfold PySem.W.notCls; rw [h3],by rw [z2]; trivial⟩
 exact PySem.W.kia_one (FT.kit_exc C) I.kIn J e (fun z=>nomatch z) fun tk=>⟨.bl b,H,I.kept (t':=tk) fun _ _ z=>z,rfl,q⟩
end
end L2
namespace FT
open PySem PySem.W PySem.Spec PyProof.Rows L2
structure B95 (b:Bk):Prop where
 ok:b.Ok
 own:OwnR b (z06 b)
 ends:∀ n ∈ b.names,EndK b n
 wb:∀ n ∈ b.names,Wb (z06 b n)
 nf:NoF b (z06 b)
noncomputable abbrev rk95 (b:Bk) (g:Gr):Lad:=Gr.rk b (z06 b) g
theorem At48.okX {b:Bk} {j:Nat} {g:Gr} (h:At48 b j g) (hj:j<=60):g.Ok (2 ^ 210):=h.ok.mono (by
 have h1:(2:Int) ^ 132*((j:Int)+1)<=2 ^ 132*61:=Int.mul_le_mul_of_nonneg_left (by omega) (by decide)
 exact Int.le_trans h1 (by decide))
theorem B95.fit {b:Bk} (B:B95 b) {ns:List Str} (hns:∀ n ∈ b.names,n ∈ ns) {j:Nat} {g:Gr} (hg:At48 b j g) (hj:j<=60) :
  Gr.FitZ b (z06 b) ns g/\(rk95 b g).deep<=28/\(rk95 b g).Ok (2 ^ (340+212*g.parts)):=by
 have h:=B.wb
 have ho:=hg.okX hj
 have h1:=hg.parts
 have h2:=hg.deep
 refine ⟨(Gr.rk_fitZ (P:=126) (D:=12) (x:=340) (fun n hn=>⟨hn,(h n hn).ne,(h n hn).parts,(h n hn).deep,(h n hn).ok⟩) (by decide) hg.named ho (by omega) (by omega) (by omega)).mono hns,?_,Gr.rk_okU (fun n hn=>(h n hn).ok) hg.named ho⟩
 obtain ⟨_,s2⟩:=Gr.rk_size (b:=b) (ρ:=z06 b) (P:=126) (D:=12) (fun n hn=>⟨(h n hn).parts,(h n hn).deep⟩) hg.named
 have:=Lad.bths_deep s2
 show (Lad.bths (Gr.rkT b (z06 b) g)).deep<=28
 omega
theorem B95.goods {b:Bk} (B:B95 b):Gr.Goods0 b (z06 b) b.names:=Gr.Goods0.of B.ok (Wb.rb B.wb) B.nf
theorem B95.rnk {K:PySem.W.Frag} {C N:Addr} {b:Bk} (B:B95 b) {j:Nat} {g:Gr} {u v:V} {H:Hp} {Q:VK} {E:XK} (hj:j<=60) (hA:At48 b j g) (hu:GA K H u g) (hv:BkA K C H v b) (q:∀ (x:V) (H':Hp),SB [] H H'->LA K H' x (rk95 b g)->Q x H'):z19 K C N [v,u] H Q E :=
 ⟨_,_,b,z06 b,_,rfl,hv,B.ok,B.own,hu,by have:=hA.deep; omega,by have:=hA.parts; omega,hA.named,fun x hx=>B.ends _ (hA.named x hx),fun ns hns=>(B.fit (ns:=ns) (fun n hn=>hns n hn (B.ends n hn)) hA hj).1,q⟩
theorem At48.nextX {b:Bk} {j:Nat} {g:Gr} (h:At48 b j g) (gd:g.deep<=12) (gp:g.parts<=60) {n:Int} (n0:0<=n) (nb:n < 10 ^ 30) {r:Ru} (rok:RuOk r/\Gr.Named b.names r.1/\Gr.Named b.names r.2) {pl:Pl} {k:Str} (hb:Gr.bareAt g pl=some k):At48 b (j+1) (Gr.stk b n (Gr.grw r n) pl g).1:=h.next gd gp n0 nb rok hb
def aE (x:Nat × Lad):PyData:=.tuple [.int (x.1:Nat),x.2.enc]
theorem z18 (x:Nat × Lad):z03 (aE x)=true:=by simp [aE,z03,z07,Lad.noList_enc]
def z76 (K:PySem.W.Frag):Sp:=fun vs H Q _=>∃ (v:V) (g:Gr),vs=[v]/\GA K H v g/\g.deep<=19/\g.parts<=900/\∀ (bb:Bool) (H':Hp),SB [] H H'->(bb=true->g.parts<=40/\g.deep<=12)->Q (.bl bb) H'
def z1d (K:PySem.W.Frag) (C CB:Addr):Sp:=fun vs H Q _=>∃ (a ls ld lu q:Addr) (bv:V) (b:Bk) (gs:List Gr) (g:Gr) (ds:List Fa) (us:List (Fa × Gr)) (j m:Nat) (ws:List V) (as:List (Nat × Lad)) (k0:Nat) (l0:Lad),vs=[bv,.ref a,.ref q,.int (m:Nat)]/\Ply K C H bv a ls ld lu (gs++[g]) ds us/\(BkA K CB H bv b/\B95 b)/\(At48 b j g/\j<=60)/\(H q=some (.lst ws)/\Bears K H aE ws (as++[(k0,l0)])/\as.length<=100)/\l0.deep<=28/\((k0=m/\l0=rk95 b g)\/(k0 ≠ m/\(rk95 b g).lt l0=true))/\(k0=m->∀ H',SB [] H H'->Q (.bl true) H')/\(k0 ≠ m->∀ (ws':List V) (H':Hp),SB [q] H H'->H' q=some (.lst ws')->Bears K H' aE ws' (as++[(k0,l0)]++[(m,rk95 b g)])->Q (.bl true) H')
def z4s (K:PySem.W.Frag) (C CB:Addr):Sp:=fun vs H Q _=>∃ (a ls ld lu q s:Addr) (bv:V) (b:Bk) (gs:List Gr) (ds:List Fa) (us:List (Fa × Gr)) (ws zs:List V) (as:List (Nat × Lad)),vs=[bv,.ref a,.ref s,.ref q]/\Ply K C H bv a ls ld lu gs ds us/\(BkA K CB H bv b/\B95 b)/\gs.length=ds.length+1/\ds.length<=60/\us.length<=100/\(∀ g ∈ gs,∃ j,j<=60/\At48 b j g)/\(H s=some (.lst zs)/\Bears K H Gr.enc zs gs)/\(H q=some (.lst ws)/\Bears K H aE ws as/\as.length<=100/\(as.map (·.1)).Nodup/\∀ x ∈ as,∃ g,gs[x.1]?=some g/\x.2=rk95 b g)/\(s ∉ [ls,ld,lu]/\q ∉ [ls,ld,lu])/\∀ H',SB [ls,ld,lu] H H'->Q (.bl true) H'
section
variable {K:PySem.W.Frag} {H H':Hp} {d:Addr} {as:List (Nat × Lad)} {ws:List V}
abbrev KvI (K:PySem.W.Frag) (H:Hp):Key × V->Nat × Lad->Prop:=fun kv x=>kv.1=Sum.inl ((x.1:Nat):Int)/\LA K H kv.2 x.2
theorem zcg:∀ {as:List (Nat × Lad)} {ws:List V},Bears K H aE ws as->∃ (ps:List Addr) (kvs:List (Key × V)),ws=ps.map V.ref/\Paired (fun p kv=>SqT K H p [kV kv.1,kv.2]) ps kvs/\PairedL (KvI K H) kvs as
 | [],_,.nil=>⟨[],[],rfl,.nil,.nil⟩
 | x::r,_,.cons h t=>by
  obtain ⟨ps,kvs,e1,e2,e3⟩:=zcg t
  cases (h:Dp K H _ (.tuple [.int (x.1:Nat),x.2.enc])) with
  | @tup T us _ hT hall =>
  cases hall with
  | cons h1 hall =>
  cases hall with
  | @cons v _ _ _ h2 hall =>
  cases hall
  cases h1
  exact ⟨T::ps,(Sum.inl ((x.1:Nat):Int),v)::kvs,by rw [e1]; rfl,.cons hT e2,.cons ⟨rfl,h2⟩ e3⟩
theorem z4k:∀ {kvs acc:List (Key × V)},((acc++kvs).map (·.1)).Nodup->mergeK acc kvs=acc++kvs
 | [],acc,_=>by simp [mergeK]
 | (k,v)::r,acc,h=>by
  have hk:∀ p ∈ acc,p.1 ≠ k:=fun p hp e=>by
   rw [List.map_append,List.map_cons] at h
   exact (List.nodup_append.mp h).2.2 p.1 (List.mem_map.mpr ⟨p,hp,rfl⟩) k (mcs ..) e
  show mergeK (putK acc k v) r=_
  rw [z2g hk,z4k (acc:=acc++[(k,v)]) (by rw [List.append_assoc]; exact h),List.append_assoc]
  rfl
theorem PairedL.keys {kvs:List (Key × V)} (h:PairedL (KvI K H) kvs as):kvs.map (·.1)=as.map fun x=>(Sum.inl ((x.1:Nat):Int):Key):=by
 induction h with
 | nil=>rfl
 | cons a _ ih=>rw [List.map_cons,List.map_cons,ih,a.1]
theorem zaq (nd:(as.map (·.1)).Nodup):(as.map fun x=>(Sum.inl ((x.1:Nat):Int):Key)).Nodup:=by
 have:as.map (fun x=>(Sum.inl ((x.1:Nat):Int):Key))=(as.map (·.1)).map fun n:Nat=>(Sum.inl (n:Int):Key):=by rw [List.map_map]; rfl
 rw [this]
 exact List.Pairwise.map _ (fun a b h z=>h (by have:=Sum.inl.inj z; omega)) nd
def RkI (K:PySem.W.Frag) (H:Hp) (d:Addr) (as:List (Nat × Lad)):Prop:=∃ kvs,H d=some (.dK kvs)/\PairedL (KvI K H) kvs as
theorem RkI.sb {ps:List Addr} (h:RkI K H d as) (e:SB ps H H') (hd:d ∉ ps):RkI K H' d as:=by
 obtain ⟨kvs,h1,h2⟩:=h
 exact ⟨kvs,e.keep _ _ h1 hd,h2.mono fun _ _ q=>⟨q.1,LA.sb q.2 e⟩⟩
theorem PairedL.left {α β:Type} {F:α->β->Prop} {as:List α} {bs:List β} (h:PairedL F as bs):∀ a ∈ as,∃ b ∈ bs,F a b:=by
 induction h with
 | nil=>exact fun a z=>nomatch z
 | cons h1 _ ih =>
  intro a ha
  rcases List.mem_cons.mp ha with e | e
  ·exact ⟨_,mcs ..,e ▸ h1⟩
  ·obtain ⟨b,hb,hf⟩:=ih a e
   exact ⟨b,mcm _ hb,hf⟩
theorem RkI.look (h:RkI K H d as) (k:Nat):∃ o,(∀ H',SB [] H H'->DGet H' d (.int (k:Nat)) o)/\(o=none\/∃ v l,o=some v/\(k,l) ∈ as/\LA K H v l):=by
 obtain ⟨kvs,h1,h2⟩:=h
 refine ⟨_,fun H' s=>DGet.k (k:=Sum.inl ((k:Nat):Int)) (s.keep _ _ h1 nmn),?_⟩
 cases e:kvs.find? fun kv=>decide (kv.1=Sum.inl ((k:Nat):Int)) with
 | none=>exact .inl (by unfold valV; rw [e]; rfl)
 | some kv =>
  refine .inr ⟨kv.2,?_⟩
  have hm:=List.mem_of_find?_eq_some e
  have hk:kv.1=Sum.inl ((k:Nat):Int):=by have:=List.find?_some e; simpa using this
  obtain ⟨x,hx,e1,e2⟩:=h2.left kv hm
  have:x.1=k:=by
   have:=Sum.inl.inj (e1.symm.trans hk)
   omega
  exact ⟨x.2,by unfold valV; rw [e]; rfl,by rw [<- this]; exact hx,e2⟩
end
structure In95 (K:PySem.W.Frag) (C CB:Addr) (H:Hp) (p R S Q y:Addr) (bv:V) (b:Bk) (j:Nat) (ls ld lu:Addr) (gs:List Gr) (g:Gr) (ds:List Fa) (as:List (Nat × Lad)) (k0:Nat) (l0:Lad):Prop where
 dr:Dr H p
 rul:RulA H R b
 bk:BkA K CB H bv b
 ply:Ply K C H bv y ls ld lu (gs++[g]) ds []
 st:∃ zs,H S=some (.lst zs)/\Bears K H Gr.enc zs (gs++[g])
 ask:∃ ws,H Q=some (.lst ws)/\Bears K H aE ws (as++[(k0,l0)])
 dl:ds.length=gs.length
 gl:gs.length<=j
 al:as.length<=k0
 ats:∀ h ∈ gs++[g],∃ i,i<=j/\At48 b i h
 gp:g.parts<=40
 gd:g.deep<=12
 nd:((as++[(k0,l0)]).map (·.1)).Nodup
 kl:∀ x ∈ as++[(k0,l0)],x.1<=k0
 own:∀ x ∈ as++[(k0,l0)],∃ h,(gs++[g])[x.1]?=some h/\x.2=rk95 b h
 last:(k0=gs.length/\l0=rk95 b g)\/(k0 < gs.length/\(rk95 b g).lt l0=true)
 sep:[p,S,Q,ls,ld,lu].Nodup
section
variable {K:PySem.W.Frag} {C CB:Addr} {H H':Hp} {p R S Q y:Addr} {bv:V} {b:Bk} {j:Nat} {ls ld lu:Addr} {gs:List Gr} {g:Gr} {ds:List Fa} {as:List (Nat × Lad)} {k0:Nat} {l0:Lad}
theorem In95.up (h:In95 K C CB H p R S Q y bv b j ls ld lu gs g ds as k0 l0):In95 K C CB H p R S Q y bv b (j+1) ls ld lu gs g ds as k0 l0 :=
 { h with gl:=by have:=h.gl; omega,ats:=fun x hx=>by obtain ⟨i,h1,h2⟩:=h.ats x hx; exact ⟨i,by omega,h2⟩ }
theorem In95.draw (h:In95 K C CB H p R S Q y bv b j ls ld lu gs g ds as k0 l0) (e:SB [p] H H') (hp:Dr H' p):In95 K C CB H' p R S Q y bv b j ls ld lu gs g ds as k0 l0:=by
 have sp:=h.sep
 obtain ⟨zs,s1,s2⟩:=h.st
 obtain ⟨ws,a1,a2⟩:=h.ask
 obtain ⟨dx,hi⟩:=h.ply.ins
 obtain ⟨ns,d1,_⟩:=h.dr
 have hR:=h.rul
 simp only [List.nodup_cons,List.mem_cons,nmn,or_false,not_or] at sp
 obtain ⟨⟨p1,p2,p3,p4,p5⟩,_⟩:=sp
 have ne:∀ {x:Addr},p ≠ x->x ∉ [p]:=fun n z=>n (List.mem_singleton.mp z).symm
 exact { h with
  dr:=hp
  rul:=e.keep _ _ hR (ne fun z=>by rw [RulA,<- z,d1] at hR; cases hR)
  bk:=h.bk.sb e h.dr.lsts
  ply:=h.ply.sb e (ne fun z=>by rw [<- z,d1] at hi; cases hi) (ne p3) (ne p4) (ne p5)
  st:=⟨zs,e.keep _ _ s1 (ne p1),s2.sb e Gr.noList_enc⟩
  ask:=⟨ws,e.keep _ _ a1 (ne p2),a2.sb e z18⟩ }
theorem In95.sb (h:In95 K C CB H p R S Q y bv b j ls ld lu gs g ds as k0 l0) (e:SB [] H H'):In95 K C CB H' p R S Q y bv b j ls ld lu gs g ds as k0 l0:=h.draw e.nil (h.dr.sb e)
theorem In95.fall {f:Fa} {lu':Addr} {gv:V} {g1:Gr} (h:In95 K C CB H p R S Q y bv b j ls ld lu gs g ds as k0 l0) (e:SB [y,ls,ld] H H') (hn:H lu'=none) (ply:Ply K C H' bv y ls ld lu' (gs++[g]++[g1]) (ds++[f]) []) (hg:GA K H' gv g1) (A:At48 b (j+1) g1) (gp:g1.parts<=40) (gd:g1.deep<=12) (lt:(rk95 b g1).lt (rk95 b g)=true) :
  ∃ zs,H' S=some (.lst zs)/\zs.length=gs.length+1/\In95 K C CB (upd H' S (.lst (zs++[gv]))) p R S Q y bv b (j+1) ls ld lu' (gs++[g]) g1 (ds++[f]) as k0 l0:=by
 have sp:=h.sep
 obtain ⟨zs,s1,s2⟩:=h.st
 obtain ⟨ws,a1,a2⟩:=h.ask
 obtain ⟨dx,hi⟩:=h.ply.ins
 obtain ⟨vl,q1,_⟩:=h.ply.st
 obtain ⟨vd,q2,_⟩:=h.ply.dn
 obtain ⟨ns,d1,d2⟩:=h.dr
 have hR:=h.rul
 have zl:=s2.length
 rw [List.length_append,List.length_singleton] at zl
 have old:∀ {x:Addr} {z:HO},H x=some z->x ≠ lu':=fun h z=>by rw [z,hn] at h; cases h
 simp only [List.nodup_cons,List.mem_cons,nmn,or_false,not_or,List.nodup_nil,and_true,not_false_eq_true] at sp
 obtain ⟨⟨p1,p2,p3,p4,p5⟩,⟨r1,r2,r3,r4⟩,⟨t1,t2,t3⟩,⟨u1,u2⟩,u3⟩:=sp
 have ny:∀ {x:Addr} {xs:List V},H x=some (.lst xs)->x ≠ ls->x ≠ ld->x ∉ [y,ls,ld]:=fun hx n1 n2 z=>by
  simp only [List.mem_cons,nmn,or_false] at z
  rcases z with rfl | rfl | rfl
  ·rw [hi] at hx; cases hx
  ·exact n1 rfl
  ·exact n2 rfl
 have S1:=e.keep _ _ s1 (ny s1 r2 r3)
 have Q1:=e.keep _ _ a1 (ny a1 t1 t2)
 have P1:=e.keep _ _ d1 (ny d1 p3 p4)
 have R1:RulA H' R b:=e.keep _ _ hR fun z=>by
  simp only [List.mem_cons,nmn,or_false] at z
  rcases z with rfl | rfl | rfl
  ·rw [RulA,hi] at hR; cases hR
  ·rw [RulA,q1] at hR; cases hR
  ·rw [RulA,q2] at hR; cases hR
 have B1:=h.bk.sbF e (h.ply.ftp.sub (by simp))
 have t:=SB.set (ps:=[S]) S1 (by simp) (.lst (zs++[gv]))
 have ne:∀ {x:Addr},S ≠ x->x ∉ [S]:=fun n z=>n (List.mem_singleton.mp z).symm
 obtain ⟨dy,hy⟩:=ply.ins
 refine ⟨zs,S1,zl,?_⟩
 have e1:(gs++[g]).length=gs.length+1:=by simp
 refine { dr:=⟨ns,t.keep _ _ P1 (ne (Ne.symm p1)),d2⟩,rul:=t.keep _ _ R1 (ne fun z=>by rw [RulA,<- z,S1] at R1; cases R1),bk:=B1.sbF (C:=C) t (Ftp.one S1),ply:=ply.sb t (ne fun z=>by rw [<- z,S1] at hy; cases hy) (ne r2) (ne r3) (ne (old s1)),st:=⟨_,upd_same,(((s2.sb e Gr.noList_enc).sb t Gr.noList_enc).append (.cons (hg.sb t) .nil))⟩,ask:=⟨ws,t.keep _ _ Q1 (ne r1),(a2.sb e z18).sb t z18⟩,dl:=?_,gl:=?_,al:=h.al,ats:=?_,gp:=gp,gd:=gd,nd:=h.nd,kl:=h.kl,own:=?_,last:=?_,sep:=?_ }
 ·have:=h.dl; simp; exact this
 ·have:=h.gl; omega
 ·intro x hx
  rcases List.mem_append.mp hx with z | z
  ·obtain ⟨i,h1,h2⟩:=h.ats x z; exact ⟨i,by omega,h2⟩
  ·rw [List.mem_singleton.mp z]; exact ⟨j+1,Nat.le_refl _,A⟩
 ·intro x hx
  obtain ⟨w,h1,h2⟩:=h.own x hx
  exact ⟨w,by rw [List.getElem?_append_left (by have:=(List.getElem?_eq_some_iff.mp h1).1; exact this)]; exact h1,h2⟩
 ·refine .inr ⟨by rcases h.last with ⟨z,_⟩ | ⟨z,_⟩ <;> omega,?_⟩
  rcases h.last with ⟨_,z⟩ | ⟨_,z⟩
  ·rw [z]; exact lt
  ·exact Lad.lt_trans _ _ _ lt z
 ·simp only [List.nodup_cons,List.mem_cons,nmn,or_false,not_or,List.nodup_nil,and_true,not_false_eq_true]
  exact ⟨⟨p1,p2,p3,p4,old d1⟩,⟨r1,r2,r3,old s1⟩,⟨t1,t2,old a1⟩,⟨u1,old q1⟩,old q2⟩
theorem In95.asked {ws:List V} (h:In95 K C CB H p R S Q y bv b j ls ld lu gs g ds as k0 l0) (e:SB [Q] H H') (hq:H' Q=some (.lst ws)) (hw:Bears K H' aE ws (as++[(k0,l0)]++[(gs.length,rk95 b g)])) (hk:k0 ≠ gs.length):In95 K C CB H' p R S Q y bv b j ls ld lu gs g ds (as++[(k0,l0)]) gs.length (rk95 b g):=by
 have sp:=h.sep
 obtain ⟨zs,s1,s2⟩:=h.st
 obtain ⟨w0,a1,a2⟩:=h.ask
 obtain ⟨dx,hi⟩:=h.ply.ins
 have hR:=h.rul
 simp only [List.nodup_cons,List.mem_cons,nmn,or_false,not_or,List.nodup_nil,and_true,not_false_eq_true] at sp
 obtain ⟨⟨p1,p2,p3,p4,p5⟩,⟨r1,r2,r3,r4⟩,⟨t1,t2,t3⟩,⟨u1,u2⟩,u3⟩:=sp
 have ne:∀ {x:Addr},Q ≠ x->x ∉ [Q]:=fun n z=>n (List.mem_singleton.mp z).symm
 have lt:k0 < gs.length:=by
  rcases h.last with ⟨z,_⟩ | ⟨z,_⟩
  ·exact absurd z hk
  ·exact z
 exact { h with
  dr:=h.dr.keep e (ne (Ne.symm p2))
  rul:=e.keep _ _ hR (ne fun z=>by rw [RulA,<- z,a1] at hR; cases hR)
  bk:=h.bk.sbF e (C:=C) (Ftp.one a1)
  ply:=h.ply.sb e (ne fun z=>by rw [<- z,a1] at hi; cases hi) (ne t1) (ne t2) (ne t3)
  st:=⟨zs,e.keep _ _ s1 (ne (Ne.symm r1)),s2.sb e Gr.noList_enc⟩
  ask:=⟨ws,hq,hw⟩
  al:=by rw [List.length_append,List.length_singleton]; have:=h.al; omega
  nd:=by
   rw [List.map_append,List.nodup_append]
   refine ⟨h.nd,by simp,fun x hx z hz=>?_⟩
   obtain ⟨w,hw,rfl⟩:=List.mem_map.mp hx
   have:=h.kl w hw
   rw [List.map_cons,List.map_nil,List.mem_singleton] at hz
   omega
  kl:=fun x hx=>by
   rcases List.mem_append.mp hx with z | z
   ·have:=h.kl x z; omega
   ·rw [List.mem_singleton.mp z]; exact Nat.le_refl _
  own:=fun x hx=>by
   rcases List.mem_append.mp hx with z | z
   ·exact h.own x z
   ·rw [List.mem_singleton.mp z]; exact ⟨g,by simp,rfl⟩
  last:=.inl ⟨rfl,rfl⟩ }
end
theorem z90 {i:Nat} {v:V} {σ:L2.St} {H:Hp} {Q:L2.St->Hp->Prop} (h:Q (σ.set i (some v)) H):gName i v σ H Q:=h
theorem z7v {α β:Type} {F:α->β->Prop}:∀ {as as':List α} {bs bs':List β},Paired F as bs->Paired F as' bs'->Paired F (as++as') (bs++bs')
 | _,_,_,_,.nil,h=>h
 | _,_,_,_,.cons h t,h'=>.cons h (z7v t h')
theorem At48.monoJ {b:Bk} {i j:Nat} {g:Gr} (h:At48 b i g) (e:i<=j):At48 b j g:=⟨h.ok.mono (Int.mul_le_mul_of_nonneg_left (by omega) (by decide)),h.parts,h.deep,h.named⟩
theorem In95.askQ {K:PySem.W.Frag} {C CB:Addr} {H:Hp} {p R S Q y:Addr} {bv:V} {b:Bk} {j:Nat} {ls ld lu:Addr} {gs:List Gr} {g:Gr} {ds:List Fa} {as:List (Nat × Lad)} {k0:Nat} {l0:Lad} {W:VK} {E:XK} (B:B95 b) (h:In95 K C CB H p R S Q y bv b j ls ld lu gs g ds as k0 l0) (hj:j<=60)
  (q:∀ (as':List (Nat × Lad)) (k1:Nat) (l1:Lad) (H':Hp),In95 K C CB H' p R S Q y bv b j ls ld lu gs g ds as' k1 l1->W (.bl true) H'):z1d K C CB [bv,.ref y,.ref Q,.int (gs.length:Nat)] H W E:=by
 obtain ⟨ws,a1,a2⟩:=h.ask
 obtain ⟨i,hi,A⟩:=h.ats g (by simp)
 have al:=h.al
 have gl:=h.gl
 obtain ⟨x,hx,ex⟩:=h.own (k0,l0) (by simp)
 obtain ⟨i2,hi2,A2⟩:=h.ats x (List.mem_of_getElem? hx)
 have d2:=(B.fit (ns:=b.names) (fun n hn=>hn) A2 (by omega)).2.1
 refine ⟨y,ls,ld,lu,Q,bv,b,gs,g,ds,[],i,gs.length,ws,as,k0,l0,rfl,h.ply,⟨h.bk,B⟩,⟨A,by omega⟩,⟨a1,a2,?_⟩,by rw [show l0=rk95 b x from ex]; exact d2,?_,fun e H' s=>q _ _ _ _ (h.sb s),fun n ws' H' s hq hw=>q _ _ _ _ (h.asked s hq hw n)⟩
 ·rcases h.last with ⟨z,_⟩ | ⟨z,_⟩ <;> omega
 ·rcases h.last with z | ⟨z,w⟩
  ·exact .inl z
  ·exact .inr ⟨by omega,w⟩
def top (i:Nat):Stmt:=PySem.Challenge.pw_felltimber_k95_whole_long_plays_sink.main.body.getD i (.Pass ⟨0,0,0,0⟩)
abbrev z62:Stmt:=top 3
abbrev z6n:Stmt:=top 4
abbrev z5v:Stmt:=top 5
abbrev z2z:Stmt:=top 6
abbrev z2v:Stmt:=top 7
abbrev z46:Stmt:=top 8
abbrev z6a:Stmt:=top 9
abbrev z5t:Stmt:=top 21
abbrev z3k:Stmt:=top 22
abbrev z3n:Stmt:=top 23
abbrev z6d:Stmt:=top 24
abbrev z6h:Stmt:=top 25
abbrev z4l:Stmt:=top 26
abbrev z6c:Stmt:=top 27
abbrev z3i:Stmt:=top 28
abbrev z6p:Stmt:=top 29
abbrev z3h:Stmt:=top 30
abbrev z6g:Stmt:=top 38
abbrev z6q:Stmt:=top 39
abbrev z5r:Stmt:=top 40
abbrev z2y:Stmt:=top 41
abbrev z4c:Stmt:=top 42
abbrev z42:Stmt:=top 43
abbrev z3l:Stmt:=top 44
abbrev z5k:Stmt:=top 46
abbrev z4p:Stmt:=top 47
abbrev z4f:Stmt:=top 48
abbrev z63:Stmt:=top 52
abbrev z5y:Stmt:=top 53
abbrev z60:Stmt:=top 54
abbrev z5l:Stmt:=top 55
abbrev z6j:Stmt:=top 56
abbrev z5i:Stmt:=top 57
abbrev z6f:Stmt:=top 58
abbrev z6i:Stmt:=top 62
abbrev z3m:Stmt:=top 63
abbrev z3q:Stmt:=top 65
abbrev z5n:Stmt:=top 66
abbrev z4o:Stmt:=top 67
abbrev z49:Stmt:=top 68
abbrev z5o:Stmt:=top 70
abbrev z48:Stmt:=top 71
abbrev z5z:Stmt:=top 72
abbrev z5c:Stmt:=top 74
abbrev z3g:Stmt:=top 75
abbrev z3t:Stmt:=top 76
abbrev z4e:Stmt:=top 77
abbrev z4m:Stmt:=top 78
abbrev z4h:Stmt:=top 79
abbrev z6m:Stmt:=top 80
abbrev z5f:Stmt:=top 82
abbrev z3s:Stmt:=top 83
abbrev z5s:Stmt:=top 84
abbrev z4d:Stmt:=top 85
abbrev z5j:Stmt:=top 86
abbrev z6l:Stmt:=top 87
abbrev z5g:Stmt:=top 89
abbrev z68:Stmt:=top 90
abbrev z6e:Stmt:=top 91
abbrev z65:Stmt:=top 92
abbrev z30:Stmt:=top 93
abbrev z5w:Stmt:=top 94
abbrev z4b:Stmt:=top 95
abbrev z5q:Stmt:=top 96
abbrev z61:Stmt:=top 97
abbrev z5d:Stmt:=top 98
abbrev z5e:Stmt:=top 99
abbrev z3y:Stmt:=top 100
abbrev z6o:Stmt:=top 101
abbrev z5x:Stmt:=top 102
abbrev z5u:Stmt:=top 103
abbrev z3v:Stmt:=top 104
abbrev s_q5:Stmt:=inClass (top 14) 0
abbrev s_q4:Stmt:=inClass (top 19) 0
abbrev s_q0:Stmt:=inClass (top 37) 0
abbrev s_q1:Stmt:=inClass (top 37) 1
abbrev s_q3:Stmt:=inClass (top 37) 2
abbrev s_q2:Stmt:=inClass (top 37) 3
abbrev s_q6:Stmt:=inClass (top 60) 0
abbrev z5h:Stmt:=inClass (top 60) 1
abbrev z5p:Stmt:=inClass (top 60) 2
abbrev s_q9:Stmt:=inClass (top 60) 3
abbrev s_q8:Stmt:=inClass (top 60) 4
abbrev s_q7:Stmt:=inClass (top 60) 5
abbrev eC:List Str:=["NoFall"]
abbrev eN:List Str:=["NoPlace","NoBook","NoKind","NoRule","NoNumber","TooGreat","NoFall","Endless"]
abbrev eK:List Str:=[]
def zfu:He.DefD:=⟨("is_whole",none),"is_whole","is_whole",defArgs z62,defBody z62,defScope z62,[],[]⟩
def zea:He.DefD:=⟨("is_many",none),"is_many","is_many",defArgs z6n,defBody z6n,defScope z6n,[],[]⟩
def zfm:He.DefD:=⟨("is_name",none),"is_name","is_name",defArgs z5v,defBody z5v,defScope z5v,[],[]⟩
def zfn:He.DefD:=⟨("is_rising",none),"is_rising","is_rising",defArgs z2z,defBody z2z,defScope z2z,[],[]⟩
def zdv:He.DefD:=⟨("joined",none),"joined","joined",defArgs z2v,defBody z2v,defScope z2v,[],[]⟩
def zep:He.DefD:=⟨("many_at",none),"many_at","many_at",defArgs z46,defBody z46,defScope z46,[],[]⟩
def ze0:He.DefD:=⟨("run_of",none),"run_of","run_of",defArgs z6a,defBody z6a,defScope z6a,[],[]⟩
def zf6:He.DefD:=⟨("is_tree",none),"is_tree","is_tree",defArgs z5t,defBody z5t,defScope z5t,[],[]⟩
def zg0:He.DefD:=⟨("is_grove",none),"is_grove","is_grove",defArgs z3k,defBody z3k,defScope z3k,[],[]⟩
def zft:He.DefD:=⟨("are_grove_pairs",none),"are_grove_pairs","are_grove_pairs",defArgs z3n,defBody z3n,defScope z3n,[],[]⟩
def zga:He.DefD:=⟨("together",none),"together","together",defArgs z6d,defBody z6d,defScope z6d,[],[]⟩
def ze8:He.DefD:=⟨("without",none),"without","without",defArgs z6h,defBody z6h,defScope z6h,[],[]⟩
def zeo:He.DefD:=⟨("times",none),"times","times",defArgs z4l,defBody z4l,defScope z4l,[],[]⟩
def zfe:He.DefD:=⟨("pairs_within",none),"pairs_within","pairs_within",defArgs z6c,defBody z6c,defScope z6c,[],[]⟩
def zg5:He.DefD:=⟨("kinds_within",none),"kinds_within","kinds_within",defArgs z3i,defBody z3i,defScope z3i,[],[]⟩
def zf9:He.DefD:=⟨("parts_of",none),"parts_of","parts_of",defArgs z6p,defBody z6p,defScope z6p,[],[]⟩
def ze4:He.DefD:=⟨("deep_of",none),"deep_of","deep_of",defArgs z3h,defBody z3h,defScope z3h,[],[]⟩
def zdx:He.DefD:=⟨("rules_from_nought",none),"rules_from_nought","rules_from_nought",defArgs z6g,defBody z6g,defScope z6g,[],[]⟩
def zgb:He.DefD:=⟨("check_kind",none),"check_kind","check_kind",defArgs z6q,defBody z6q,defScope z6q,[],[]⟩
def zg9:He.DefD:=⟨("check_kinds",none),"check_kinds","check_kinds",defArgs z5r,defBody z5r,defScope z5r,[],[]⟩
def zem:He.DefD:=⟨("are_kinds",none),"are_kinds","are_kinds",defArgs z2y,defBody z2y,defScope z2y,[],[]⟩
def zg1:He.DefD:=⟨("is_kind",none),"is_kind","is_kind",defArgs z4c,defBody z4c,defScope z4c,[],[]⟩
def ze3:He.DefD:=⟨("is_rule",none),"is_rule","is_rule",defArgs z42,defBody z42,defScope z42,[],[]⟩
def zf3:He.DefD:=⟨("is_rule_of",none),"is_rule_of","is_rule_of",defArgs z3l,defBody z3l,defScope z3l,[],[]⟩
def zeb:He.DefD:=⟨("tree_at",none),"tree_at","tree_at",defArgs z5k,defBody z5k,defScope z5k,[],[]⟩
def zer:He.DefD:=⟨("number_of",none),"number_of","number_of",defArgs z4p,defBody z4p,defScope z4p,[],[]⟩
def zfg:He.DefD:=⟨("all_places",none),"all_places","all_places",defArgs z4f,defBody z4f,defScope z4f,[],[]⟩
def zge:He.DefD:=⟨("fallen",none),"fallen","fallen",defArgs z63,defBody z63,defScope z63,[],[]⟩
def zf7:He.DefD:=⟨("rule_at",none),"rule_at","rule_at",defArgs z5y,defBody z5y,defScope z5y,[],[]⟩
def zev:He.DefD:=⟨("check_number",none),"check_number","check_number",defArgs z60,defBody z60,defScope z60,[],[]⟩
def zef:He.DefD:=⟨("check_bound",none),"check_bound","check_bound",defArgs z5l,defBody z5l,defScope z5l,[],[]⟩
def zfq:He.DefD:=⟨("grown",none),"grown","grown",defArgs z6j,defBody z6j,defScope z6j,[],[]⟩
def zdq:He.DefD:=⟨("further_ones",none),"further_ones","further_ones",defArgs z5i,defBody z5i,defScope z5i,[],[]⟩
def zfi:He.DefD:=⟨("struck",none),"struck","struck",defArgs z6f,defBody z6f,defScope z6f,[],[]⟩
def zel:He.DefD:=⟨("number",none),"number","number",defArgs z6i,defBody z6i,defScope z6i,[],[]⟩
def ze2:He.DefD:=⟨("is_less",none),"is_less","is_less",defArgs z3m,defBody z3m,defScope z3m,[],[]⟩
def ze9:He.DefD:=⟨("behind",none),"behind","behind",defArgs z3q,defBody z3q,defScope z3q,[],[]⟩
def zeu:He.DefD:=⟨("both",none),"both","both",defArgs z5n,defBody z5n,defScope z5n,[],[]⟩
def zg8:He.DefD:=⟨("all_together",none),"all_together","all_together",defArgs z4o,defBody z4o,defScope z4o,[],[]⟩
def zfr:He.DefD:=⟨("many_of",none),"many_of","many_of",defArgs z49,defBody z49,defScope z49,[],[]⟩
def zfx:He.DefD:=⟨("power",none),"power","power",defArgs z5o,defBody z5o,defScope z5o,[],[]⟩
def zfb:He.DefD:=⟨("above",none),"above","above",defArgs z48,defBody z48,defScope z48,[],[]⟩
def zf1:He.DefD:=⟨("spread",none),"spread","spread",defArgs z5z,defBody z5z,defScope z5z,[],[]⟩
def zfz:He.DefD:=⟨("steps_of",none),"steps_of","steps_of",defArgs z5c,defBody z5c,defScope z5c,[],[]⟩
def zei:He.DefD:=⟨("steps_in",none),"steps_in","steps_in",defArgs z3g,defBody z3g,defScope z3g,[],[]⟩
def zek:He.DefD:=⟨("leads",none),"leads","leads",defArgs z3t,defBody z3t,defScope z3t,[],[]⟩
def ze6:He.DefD:=⟨("ending_kinds",none),"ending_kinds","ending_kinds",defArgs z4e,defBody z4e,defScope z4e,[],[]⟩
def zen:He.DefD:=⟨("lead_into",none),"lead_into","lead_into",defArgs z4m,defBody z4m,defScope z4m,[],[]⟩
def zfo:He.DefD:=⟨("endless_kinds",none),"endless_kinds","endless_kinds",defArgs z4h,defBody z4h,defScope z4h,[],[]⟩
def ze7:He.DefD:=⟨("check_ends",none),"check_ends","check_ends",defArgs z6m,defBody z6m,defScope z6m,[],[]⟩
def zfp:He.DefD:=⟨("rank",none),"rank","rank",defArgs z5f,defBody z5f,defScope z5f,[],[]⟩
def zeq:He.DefD:=⟨("own_ranks",none),"own_ranks","own_ranks",defArgs z3s,defBody z3s,defScope z3s,[],[]⟩
def zf8:He.DefD:=⟨("climb",none),"climb","climb",defArgs z5s,defBody z5s,defScope z5s,[],[]⟩
def zg7:He.DefD:=⟨("reckoned",none),"reckoned","reckoned",defArgs z4d,defBody z4d,defScope z4d,[],[]⟩
def zed:He.DefD:=⟨("reckoned_tree",none),"reckoned_tree","reckoned_tree",defArgs z5j,defBody z5j,defScope z5j,[],[]⟩
def zg3:He.DefD:=⟨("laden",none),"laden","laden",defArgs z6l,defBody z6l,defScope z6l,[],[]⟩
def zfa:He.DefD:=⟨("_law_draws",none),"_law_draws","_law_draws",defArgs z5g,defBody z5g,defScope z5g,[],[]⟩
def zf4:He.DefD:=⟨("_law_next",none),"_law_next","_law_next",defArgs z68,defBody z68,defScope z68,[],[]⟩
def zeh:He.DefD:=⟨("_law_names",none),"_law_names","_law_names",defArgs z6e,defBody z6e,defScope z6e,[],[]⟩
def zg4:He.DefD:=⟨("_law_many",none),"_law_many","_law_many",defArgs z65,defBody z65,defScope z65,[],[]⟩
def zfj:He.DefD:=⟨("_law_grove",none),"_law_grove","_law_grove",defArgs z30,defBody z30,defScope z30,[],[]⟩
def zdo:He.DefD:=⟨("_law_kinds",none),"_law_kinds","_law_kinds",defArgs z5w,defBody z5w,defScope z5w,[],[]⟩
def zgc:He.DefD:=⟨("_law_book",none),"_law_book","_law_book",defArgs z4b,defBody z4b,defScope z4b,[],[]⟩
def zfv:He.DefD:=⟨("_law_less",none),"_law_less","_law_less",defArgs z5q,defBody z5q,defScope z5q,[],[]⟩
def zdp:He.DefD:=⟨("_law_ladder",none),"_law_ladder","_law_ladder",defArgs z61,defBody z61,defScope z61,[],[]⟩
def zez:He.DefD:=⟨("_law_in",none),"_law_in","_law_in",defArgs z5d,defBody z5d,defScope z5d,[],[]⟩
def ze5:He.DefD:=⟨("_law_places",none),"_law_places","_law_places",defArgs z5e,defBody z5e,defScope z5e,[],[]⟩
def zfh:He.DefD:=⟨("_law_deep",none),"_law_deep","_law_deep",defArgs z3y,defBody z3y,defScope z3y,[],[]⟩
def zdr:He.DefD:=⟨("_law_fits",none),"_law_fits","_law_fits",defArgs z6o,defBody z6o,defScope z6o,[],[]⟩
def zdz:He.DefD:=⟨("_law_asked",none),"_law_asked","_law_asked",defArgs z5x,defBody z5x,defScope z5x,[],[]⟩
def zes:He.DefD:=⟨("_law_taken_back",none),"_law_taken_back","_law_taken_back",defArgs z5u,defBody z5u,defScope z5u,[],[]⟩
def zf2:He.DefD:=⟨("law",none),"law","law",defArgs z3v,defBody z3v,defScope z3v,[],[]⟩
def d_q5:He.DefD:=⟨("NoKind",some "__init__"),"__init__","NoKind.__init__",defArgs s_q5,defBody s_q5,defScope s_q5,[],[]⟩
def d_q4:He.DefD:=⟨("Endless",some "__init__"),"__init__","Endless.__init__",defArgs s_q4,defBody s_q4,defScope s_q4,[],[]⟩
def d_q0:He.DefD:=⟨("Book",some "__init__"),"__init__","Book.__init__",defArgs s_q0,defBody s_q0,defScope s_q0,[],[]⟩
def d_q1:He.DefD:=⟨("Book",some "names"),"names","Book.names",defArgs s_q1,defBody s_q1,defScope s_q1,[],[]⟩
def d_q3:He.DefD:=⟨("Book",some "spreads"),"spreads","Book.spreads",defArgs s_q3,defBody s_q3,defScope s_q3,[],[]⟩
def d_q2:He.DefD:=⟨("Book",some "rules"),"rules","Book.rules",defArgs s_q2,defBody s_q2,defScope s_q2,[],[]⟩
def d_q6:He.DefD:=⟨("Play",some "__init__"),"__init__","Play.__init__",defArgs s_q6,defBody s_q6,defScope s_q6,[],[]⟩
def zfs:He.DefD:=⟨("Play",some "grove"),"grove","Play.grove",defArgs z5h,defBody z5h,defScope z5h,[],[]⟩
def zds:He.DefD:=⟨("Play",some "falls"),"falls","Play.falls",defArgs z5p,defBody z5p,defScope z5p,[],[]⟩
def d_q9:He.DefD:=⟨("Play",some "fall"),"fall","Play.fall",defArgs s_q9,defBody s_q9,defScope s_q9,[],[]⟩
def d_q8:He.DefD:=⟨("Play",some "back"),"back","Play.back",defArgs s_q8,defBody s_q8,defScope s_q8,[],[]⟩
def d_q7:He.DefD:=⟨("Play",some "again"),"again","Play.again",defArgs s_q7,defBody s_q7,defScope s_q7,[],[]⟩
def fn:List He.DefD:=[zfu,zea,zfm,zfn,zdv,zep,ze0,zf6,zg0,zft,zga,ze8,zeo,zfe,zg5,zf9,ze4,zdx,zgb,zg9,zem,zg1,ze3,zf3,zeb,zer,zfg,zge,zf7,zev,zef,zfq,zdq,zfi,zel,ze2,ze9,zeu,zg8,zfr,zfx,zfb,zf1,zfz,zei,zek,ze6,zen,zfo,ze7,zfp,zeq,zf8,zg7,zed,zg3,zfa,zf4,zeh,zg4,zfj,zdo,zgc,zfv,zdp,zez,ze5,zfh,zdr,zdz,zes,zf2,d_q5,d_q4,d_q0,d_q1,d_q3,d_q2,d_q6,zfs,zds,d_q9,d_q8,d_q7]
def fa1:List He.Fa:=[.glo "is_whole",.glo "is_many",.glo "is_name",.glo "is_rising",.glo "joined",.glo "many_at",.glo "run_of",.glo "is_tree",.glo "is_grove",.glo "are_grove_pairs",.glo "together",.glo "without",.glo "times",.glo "pairs_within",.glo "kinds_within",.glo "parts_of",.glo "deep_of",.glo "rules_from_nought",.glo "check_kind",.glo "check_kinds",.glo "are_kinds",.glo "is_kind",.glo "is_rule",.glo "is_rule_of",.glo "tree_at",.glo "number_of",.glo "all_places",.glo "fallen",.glo "rule_at",.glo "check_number",.glo "check_bound",.glo "grown",.glo "further_ones",.glo "struck",.glo "number",.glo "is_less",.glo "behind",.glo "both",.glo "all_together",.glo "many_of",.glo "power",.glo "above",.glo "spread",.glo "steps_of",.glo "steps_in",.glo "leads",.glo "ending_kinds",.glo "lead_into",.glo "endless_kinds",.glo "check_ends",.glo "rank",.glo "own_ranks",.glo "climb",.glo "reckoned",.glo "reckoned_tree",.glo "laden",.glo "_law_draws",.glo "_law_next",.glo "_law_names",.glo "_law_many",.glo "_law_grove",.glo "_law_kinds",.glo "_law_book",.glo "_law_less",.glo "_law_ladder",.glo "_law_in",.glo "_law_places",.glo "_law_deep",.glo "_law_fits",.glo "_law_asked",.glo "_law_taken_back"]
def fa2:List He.Fa:=[.glo "law",.free "len",.free "isinstance",.free "int",.free "bool",.free "str",.free "tuple",.free "list",.free "all",.free "zip",.free "sum",.free "max",.free "range",.free "enumerate",.free "abs",.free "sorted",.free "min",.free "reversed",.free "any",.free "set",.free "dict",.free "repr",.glo "FellError",.free "ValueError",.glo "NoPlace",.glo "NoBook",.glo "NoKind",.glo "NoRule",.glo "NoNumber",.glo "TooGreat",.glo "NoFall",.glo "Endless",.str "LETTERS" "abcdefghijklmnopqrstuvwxyz",.int "LONGEST_NAME" (8),.int "MOST_KINDS" (8),.int "MOST_RULES" (4),.int "MOST_RULE_PARTS" (4),.int "MOST_MANY" (1000000000),.int "MOST_PARTS_STANDING" (2000),.int "MOST_DEEP_STANDING" (60),.glo "NO_GROVES",.exc "NoBook",.exc "NoFall",.exc "NoNumber",.exc "NoPlace",.exc "NoRule",.exc "TooGreat",.meth "NoKind" "__init__",.noat "NoKind" "kind",.meth "Endless" "__init__",.noat "Endless" "kind",.glo "Book",.cls "Book",.noat "Book" "spread_by_name",.noat "Book" "rows_by_name",.mkr "Book",.meth "Book" "names",.meth "Book" "spreads",.meth "Book" "rules",.glo "Play",.cls "Play",.noat "Play" "book",.noat "Play" "stood",.noat "Play" "done",.noat "Play" "undone",.mkr "Play",.meth "Play" "grove",.meth "Play" "falls",.meth "Play" "fall",.meth "Play" "back",.meth "Play" "again"]
def fa:List He.Fa:=fa1++fa2
def exOk (K:PySem.W.Frag):Bool:=zas K (He.ga K "NoKind")&&(zas K (He.ga K "Endless")&&(no2B K (He.ga K "NO_GROVES")&&(ermB K (He.ga K) eC eN)))
abbrev R:PySem.W.OpenRow:=PySem.W.OpenLaw.row PySem.Challenge.rw_felltimber_k95_whole_long_plays_sink
def as0:List Addr:=[3,6,4,21,28,35,40,47,52,59,69,82,94,113,125,137,149,161,180,189,194,201,208,215,220,227,232,239,244,247,283,294,301,308,313,318,323,328,335,340,345,352,359,366,373,380,387,394,446,457,464,469,476,481,486,493,498,505,512,517,522,527,532,537,544,551,556,563,568,575,582,589,596,603,610,615,622,627,634,641,648,655,660,667,674,681,686,0,20,27,34,39,46,51,58,68,81,93,112,124,136,148,160,179,188,193,200,207,214,219,226,231,238,243,245,246,282,293,300,307,312,317,322,327,334,339,344,351,358,365,372,379,386,393,445,456,463,468,475,480,485,492,497,504,511,516,521,526,531,536,543,550,555,562,567,574,581,588,595,602,609,614,621,626,633,640,647,654,659,666,673,680,685,15,16,17,18,19,22,23,24,25,26,29,30,31,32,33,36,37,38,41,42,43,44,45,48,49,50,53,54,55,56,57,67,70,80,92,110,111,123,135,147,159,177,178,183,184,185,186,187,190,191,192,195,196,197,198,199,202,203,204,205,206,209,210,211,212,213,216,217,218,221,222,223,224,225,228,229,230,233,234,235,236,237,240,241,242,259,266,273,280,281,284,285,288,289,290,291,292,295,296,297,298,299,302,303,304,305,306,309,310,311,314,315,316,319,320,321,324,325,326,329,330,331,332,333,336,337,338,341,342,343,346,347,348,349,350,353,354,355,356,357,360,361,362,363,364,367,368,369,370,371,374,375,376,377,378,381,382,383,384,385,388,389,390,391,392,408,415,422,429,436,443,444,447,448,451,452,453,454,455,458,459,460,461,462,465,466,467,470,471,472,473,474,477,478,479,482,483,484,487,488,489,490,491,494,495,496,499,500,501,502,503,506,507,508,509,510,513,514,515,518,519,520,523,524,525,528,529,530,533,534,535,538,539,540,541,542,545,546,547,548,549,552,553,554,557,558,559,560,561,564,565,566,569,570,571,572,573,576,577,578,579,580,583,584,585,586,587,590,591,592,593,594,597,598,599,600,601,604,605,606,607,608,611,612,613,616,617,618,619,620,623,624,625,628,629,630,631,632,635,636,637,638,639,642,643,644,645,646,649,650,651,652,653,656,657,658,661,662,663,664,665,668,669,670,671,672,675,676,677,678,679,682,683,684,109,176,258,265,272,279,407,414,421,428,435,442,104,105,106,107,108,171,172,173,174,175,255,256,257,260,261,262,263,264,267,268,269,270,271,274,275,276,277,278,402,403,404,405,406,409,410,411,412,413,416,417,418,419,420,423,424,425,426,427,430,431,432,433,434,437,438,439,440,441]
def obsL (as:List Addr) (fa:List He.Fa) (fn:List He.DefD) (ex:PySem.W.Frag->Bool) (g:Addr->Option Obj):AlE:=(He.obsD fa fn (He.frG g as),ex (He.frG g as))
def zdt (as:List Addr) (fa:List He.Fa) (fn:List He.DefD) (ex:PySem.W.Frag->Bool):PySem.W.Hook where
 α:=AlE
 obs:=fun s=>obsL as fa fn ex s.heap.get?
 val:=fun _=>(He.valD fn,true)
 says:=fun _ h=>∃ K:PySem.W.Frag,K.In h/\He.SaysD fa fn K/\ex K=true
 of:=fun _ _ e=>⟨_,He.frG_in,congrArg (fun z:AlE=>z.1) e,congrArg (fun z:AlE=>z.2) e⟩
 keeps:=fun _ _ _ ⟨K,hK,c⟩ k=>⟨K,PySem.W.Frag.In.keeps hK k,c⟩
theorem zgk {as:List Addr} {fa:List He.Fa} {fn:List He.DefD} {ex:PySem.W.Frag->Bool} {g:Addr->Option Obj} {s:Shared} (h:∀ a,g a=s.heap.get? a):obsL as fa fn ex g=(zdt as fa fn ex).obs s:=by
 have e:g=s.heap.get?:=funext h
 rw [e] <;> rfl
abbrev hk:PySem.W.Hook:=zdt as0 fa fn exOk
def ob (s:PySem.W.SharedT):AlE:=obsL as0 fa fn exOk (HandSHeadRun.getT s)
theorem ob_eq (s:PySem.W.SharedT):ob s=hk.obs s.abs:=zgk (HandSHeadRun.getT_eq s)
def loose:List PySem.Str:=(["is_whole","is_many","is_name","is_rising","joined","many_at","run_of","FellError","NoPlace","NoBook","NoKind","NoRule"]:List PySem.Str)++(["NoNumber","TooGreat","NoFall","Endless","is_tree","is_grove","are_grove_pairs","together","without","times","pairs_within","kinds_within"]:List PySem.Str)++(["parts_of","deep_of","Book","rules_from_nought","check_kind","check_kinds","are_kinds","is_kind","is_rule","is_rule_of","tree_at","number_of"]:List PySem.Str)++(["all_places","fallen","rule_at","check_number","check_bound","grown","further_ones","struck","Play","number","is_less","behind"]:List PySem.Str)++(["both","all_together","many_of","power","above","spread","steps_of","steps_in","leads","ending_kinds","lead_into","endless_kinds"]:List PySem.Str)++(["check_ends","rank","own_ranks","climb","reckoned","reckoned_tree","laden","_law_draws","_law_next","_law_names","_law_many","_law_grove"]:List PySem.Str)++(["_law_kinds","_law_book","_law_less","_law_ladder","_law_in","_law_places","_law_deep","_law_fits","_law_asked","_law_taken_back","LETTERS","LONGEST_NAME"]:List PySem.Str)++(["MOST_DEEP_STANDING","MOST_KINDS","MOST_MANY","MOST_PARTS_STANDING","MOST_RULES","MOST_RULE_PARTS","NO_GROVES"]:List PySem.Str)
def KTr (s:PySem.W.SharedT):PySem.W.Frag:=He.frG (HandSHeadRun.getT s) as0
theorem run1 (w:World) (os:PySem.OsState):(HandSHeadRun.endF (HandSHeadRun.stepQ (HandSHeadRun.denQ HandSHeadRun.tabQ) R.prog w) 9000 R.prog w os).map (fun s=>HandSHeadRun.looksF R.prog (PySem.W.boot_heap w.params) s.abs)=some true:=by
 kernel_rfl
theorem run2 (w:World) (os:PySem.OsState):(HandSHeadRun.endF (HandSHeadRun.stepQ (HandSHeadRun.denQ HandSHeadRun.tabQ) R.prog w) 9000 R.prog w os).map (fun s=>HandSHeadRun.seenQ (PySem.W.view R.prog [104]) loose (importedModules R.prog.main.body) (fun s=>xlAt (PySem.W.view R.prog [104]) [] s&&recOk R.toRowW.records s) s.abs)=some (openGood (PySem.W.view R.prog [104]) loose):=by
 kernel_rfl
theorem run3 (w:World) (os:PySem.OsState):(HandSHeadRun.endF (HandSHeadRun.stepQ (HandSHeadRun.denQ HandSHeadRun.tabQ) R.prog w) 9000 R.prog w os).map (fun s=>fa1.all fun f=>f.ok (KTr s))=some true:=by
 kernel_rfl
theorem run4 (w:World) (os:PySem.OsState):(HandSHeadRun.endF (HandSHeadRun.stepQ (HandSHeadRun.denQ HandSHeadRun.tabQ) R.prog w) 9000 R.prog w os).map (fun s=>fa2.all fun f=>f.ok (KTr s))=some true:=by
 kernel_rfl
theorem run5 (w:World) (os:PySem.OsState):(HandSHeadRun.endF (HandSHeadRun.stepQ (HandSHeadRun.denQ HandSHeadRun.tabQ) R.prog w) 9000 R.prog w os).map (fun s=>fn.all fun d=>d.ok (KTr s))=some true:=by
 kernel_rfl
theorem run6 (w:World) (os:PySem.OsState):(HandSHeadRun.endF (HandSHeadRun.stepQ (HandSHeadRun.denQ HandSHeadRun.tabQ) R.prog w) 9000 R.prog w os).map (fun s=>fn.map fun d=>He.fnW (KTr s) d.at_)=some (fn.map He.DefD.val):=by
 kernel_rfl
theorem run7 (w:World) (os:PySem.OsState):(HandSHeadRun.endF (HandSHeadRun.stepQ (HandSHeadRun.denQ HandSHeadRun.tabQ) R.prog w) 9000 R.prog w os).map (fun s=>exOk (KTr s))=some true:=by
 kernel_rfl
theorem map3 {σ α β γ:Type} {o:Option σ} {A:σ->α} {B:σ->β} {C:σ->γ} {a:α} {b:β} {c:γ} (h1:o.map A=some a) (h2:o.map B=some b) (h3:o.map C=some c):o.map (fun s=>(A s,B s,C s))=some (a,b,c):=by
 cases o with
 | none=>cases h1
 | some s=>exact congrArg some (Prod.ext (Option.some.inj h1) (Prod.ext (Option.some.inj h2) (Option.some.inj h3)))
theorem mapE {σ:Type} {o:Option σ} {f1 f2:List He.Fa} {gn:List He.DefD} {ex:PySem.W.Frag->Bool} (K:σ->PySem.W.Frag) (h1:o.map (fun s=>f1.all fun f=>f.ok (K s))=some true) (h2:o.map (fun s=>f2.all fun f=>f.ok (K s))=some true) (h3:o.map (fun s=>gn.all fun d=>d.ok (K s))=some true) (h4:o.map (fun s=>gn.map fun d=>He.fnW (K s) d.at_)=some (gn.map He.DefD.val)) (h5:o.map (fun s=>ex (K s))=some true):o.map (fun s=>(He.obsD (f1++f2) gn (K s),ex (K s)))=some (He.valD gn,true):=by
 cases o with
 | none=>cases h1
 | some s =>
  have e1:(f1.all fun f=>f.ok (K s))=true:=Option.some.inj h1
  have e2:(f2.all fun f=>f.ok (K s))=true:=Option.some.inj h2
  have e3:(gn.all fun d=>d.ok (K s))=true:=Option.some.inj h3
  have e4:(gn.map fun d=>He.fnW (K s) d.at_)=gn.map He.DefD.val:=Option.some.inj h4
  have e5:ex (K s)=true:=Option.some.inj h5
  refine congrArg some (Prod.ext (Prod.ext ?_ e4) e5)
  show (((f1++f2).all fun f=>f.ok (K s))&&gn.all fun d=>d.ok (K s))=true
  rw [List.all_append,e1,e2,e3]; rfl
theorem run (w:World):HandSHeadRun.RunEq R (PySem.W.view R.prog [104]) hk ob 9000 loose w:=by
 intro os
 exact map3 (run1 w os) (run2 w os) (mapE KTr (run3 w os) (run4 w os) (run5 w os) (run6 w os) (run7 w os))
section
variable {P:Program} {w:World} {K:PySem.W.Frag} {mg:Str->Option Value} {base:Heap} {f:Addr} {fd:FuncData} {ps:List Addr}
theorem zhl:FnScope ["thing"] ["thing"] (defScope z62):=⟨rfl,rfl,rfl,by decide +kernel,rfl,by decide +kernel,by decide +kernel⟩
theorem zjh (B:BI mg) (F:Fun K "is_whole" "is_whole" z62 f fd):FnOk P w K mg base CX0 1 f fd ["thing"] (z2a K):=by
 refine F.ok zhl (fun vs H Q E h=>?_) (fun cdv A outer s H vs Q E hr h=>?_)
 ·obtain ⟨v,n,b1,b2,rfl,_⟩:=h
  rfl
 obtain ⟨v,n,b1,b2,rfl,ty,k1,k2,q⟩:=h
 refine ⟨_,pss_one (ps_ret (pe_and (z0t B (pv 0) B.int boot_int) (pe_one (pe_not (z0t B (pv 0) B.bool boot_bool))))),?_⟩
 refine ⟨_,rfl,_,_,n,b1,rfl,ty,k1,b1,rfl,?_⟩
 cases b1 with
 | false=>exact iteF q
 | true =>
  refine iteT ⟨_,rfl,_,_,n,b2,rfl,ty,k2 rfl,b2,rfl,?_⟩
  exact q
end
section
variable {P:Program} {w:World} {K:PySem.W.Frag} {mg:Str->Option Value} {base:Heap} {f:Addr} {fd:FuncData} {ps:List Addr}
theorem zkb:FnScope ["thing"] ["thing"] (defScope z6n):=⟨rfl,rfl,rfl,by decide +kernel,rfl,by decide +kernel,by decide +kernel⟩
theorem zig {ps:List Addr} (B:BI mg) (G:Got P w K mg base "is_whole" ["thing"] 1 (z2a K)) (F:Fun K "is_many" "is_many" z6n f fd):FnOk P w K mg base CX0 2 f fd ["thing"] (z7x K ps):=by
 refine F.ok zkb (fun vs H Q E h=>?_) (fun cdv A outer s H vs Q E hr h=>?_)
 ·obtain ⟨v,d,rfl,_⟩:=h
  rfl
 obtain ⟨v,d,rfl,th,q⟩:=h
 refine ⟨_,pss_one (ps_ret (pe_and (z00 G hr rfl (pa_cons (pv 0) pa_nil)) (pe_one (pe_cmpR op_ge (pv 0) pe_int (nomark _))))),?_⟩
 obtain ⟨n,b1,b2,ty,k1,k2,y1,y2⟩:=th.whole
 refine ⟨_,rfl,v,n,b1,b2,rfl,ty,k1,k2,b1&&!b2,rfl,?_⟩
 cases e:(b1&&!b2) with
 | false =>
  refine iteF ?_
  rw [y2 e] at q
  exact q
 | true =>
  obtain ⟨i,rfl,rfl⟩:=y1 e
  exact iteT ⟨_,rfl,_,_,rfl,rfl,q⟩
end
section
variable {P:Program} {w:World} {K:PySem.W.Frag} {mg:Str->Option Value} {base:Heap} {f:Addr} {fd:FuncData}
theorem zhc:FnScope ["thing"] ["thing"] (defScope z5v):=⟨rfl,rfl,rfl,by decide +kernel,rfl,by decide +kernel,by decide +kernel⟩
theorem zii (B:BI mg) (L:∃ t,mg "LETTERS"=some (.str abc t)) (N:∃ t,mg "LONGEST_NAME"=some (.int 8 t)) (G:Got P w K mg base "run_of" ["text","at","signs"] 1 (z8e K)) (F:Fun K "is_name" "is_name" z5v f fd):FnOk P w K mg base CX0 2 f fd ["thing"] (z7s K):=by
 refine F.ok zhc (fun vs H Q E h=>?_) (fun cdv A outer s H vs Q E hr h=>?_)
 ·obtain ⟨v,d,rfl,_⟩:=h
  rfl
 obtain ⟨v,d,rfl,th,q⟩:=h
 obtain ⟨tl,hL⟩:=L
 obtain ⟨tn,hN⟩:=N
 refine ⟨_,pss_cons (ps_if (PW.pt (pw_or (pt_not (pt_val (z0t B (pv 0) B.str boot_str))) (pw_or1 (pt_not (pt_chain op_le op_le pe_int (pe_callB call_len_str rfl B.len PySem.boot_len (pa_cons (pv 0) pa_nil)) (pe_glob (v:=.int 8) rfl hN ⟨_,rfl⟩)))))) (pss_one (ps_ret pe_bl)) pss_nil)
  (pss_one (ps_ret (pe_cmpR op_eq (z00 G hr rfl (pa_cons (pv 0) (pa_cons pe_int (pa_cons (pe_glob (v:=.str abc) rfl hL ⟨_,rfl⟩) pa_nil)))) (pv 0) (nomark _)))),?_⟩
 obtain ⟨n1,b,ty,kb,y1,y2⟩:=th.txt
 refine ⟨_,rfl,_,_,n1,b,rfl,ty,kb,b,rfl,?_⟩
 cases b with
 | false =>
  refine iteT (iteT ?_)
  have e:z1a d=false:=by
   cases d with
   | str z=>exact absurd rfl (y2 rfl z)
   | _=>simp [z1a]
  have:=q H SB.refl
  rw [e] at this
  exact this
 | true =>
 refine iteF ?_
 obtain ⟨z,rfl,rfl,hz⟩:=y1 rfl
 have hzl:z.length<=sizeLine:=by have:=sizeLine_eq; omega
 refine ⟨_,rfl,z,rfl,hzl,_,_,rfl,rfl,_,rfl,?_⟩
 by_cases h1:1<=z.length
 ·rw [show decide ((1:Int)<=(z.length:Int))=true from decide_eq_true (by omega)]
  refine iteT ⟨_,_,rfl,rfl,_,rfl,?_⟩
  by_cases h8:z.length<=8
  ·rw [show decide ((z.length:Int)<=8)=true from decide_eq_true (by omega)]
   refine iteF ?_
   refine ⟨_,rfl,z,abc,0,rfl,by omega,Nat.zero_le _,fun e _ he hin hout=>?_⟩
   refine ⟨_,rfl,rfl,?_⟩
   have:=q H SB.refl
   rw [<- zdg h1 h8 he hin hout] at this
   exact this
  ·rw [show decide ((z.length:Int)<=8)=false from decide_eq_false (by omega)]
   have:=q H SB.refl
   rw [z92 fun h=>h8 h.2] at this
   exact iteT this
 ·rw [show decide ((1:Int)<=(z.length:Int))=false from decide_eq_false (by omega)]
  have:=q H SB.refl
  rw [z92 fun h=>h1 h.1] at this
  exact iteF ⟨_,rfl,iteT this⟩
end
section
variable {P:Program} {w:World} {K:PySem.W.Frag} {mg:Str->Option Value} {base:Heap} {f:Addr} {fd:FuncData} {ps:List Addr}
theorem sc_q51:FnScope z99 ["things"] (defScope z2z):=⟨rfl,rfl,rfl,by decide +kernel,rfl,by decide +kernel,by decide +kernel⟩
theorem zi4 (B:BI mg) (F:Fun K "is_rising" "is_rising" z2z f fd):FnOk P w K mg base CX0 1 f fd ["things"] (z7i K):=by
 refine F.ok sc_q51 (fun vs H Q E h=>?_) (fun cdv A outer s H vs Q E hr h=>?_)
 ·obtain ⟨v,n,b1,rfl,_⟩:=h
  rfl
 obtain ⟨a,xs,ds,rfl,hS,hDp,hok,hal,hz,q⟩:=h
 have hu:A.units+200 < cLine:=by have:=hr.un; show A.units+200 < cLine; have h3:(A.deeper (envOfC "is_rising" (defScope z2z) s.heap.objs.size f cdv)).units=A.units+3:=rfl; omega
 refine ⟨_,pss_one (ps_ret (pe_callB (cr_all rfl) rfl B.all boot_all (pa_cons
  (pe_lc (own:=[("low",1),("high",2)]) (g:=gTup K 2 (gCons (gName 1) (gCons (gName 2) gNil))) (tt:=tYes) (te:=tOp (rLtD K) (tVar 1) (tVar 2)) rfl sc_q51.nd
   (pi_zip rfl B.zip (pa_cons (pv 0) (pa_cons (pe_slice sl_list (pv 0) (po_some pe_int) po_none) pa_nil)))
   (blkOk_by (N:=z99) (sc:=defScope z2z) (by decide +kernel))
   (fun _ _ _ _ _=>pg_tup rfl (pgs_cons (pg_name (i:=1) sc_q51.nd rfl (.inl rfl)) (pgs_cons (pg_name (i:=2) sc_q51.nd rfl (.inl rfl)) pgs_nil)))
   (fun _ _ _ _ _=>pts_nil)
   (fun _ _ _ _ _=>pe_cmpR (zc1 (by have:=hu; show A.units+3+100 < cLine; omega)) (pv 1) (pv 2) (nomark _))) pa_nil))),?_⟩
 refine ⟨_,rfl,_,rfl,1,rfl,a,xs,rfl,hS,fun p hp=>?_⟩
 rw [cut1]
 have e1:SB [] H (upd H p (.lst (xs.drop 1))):=SB.new hp _
 refine ⟨a,p,xs,xs.drop 1,rfl,e1.sqL nmn hS,SqL.of upd_same,fun D hD=>?_⟩
 have hpD:p ≠ D:=fun z=>by subst z; rw [upd_same] at hD; cases hD
 have dl:ds.length=xs.length:=(DpAll.length hDp).symm
 refine lc_it (walk_zip (n:=min xs.length (xs.drop 1).length) rfl) (fun i H2=>SB [D] (upd H p (.lst (xs.drop 1))) H2/\H2 D=some (.lst (((ltsD ds).take i).map V.bl))) ⟨SB.new hD _,upd_same⟩ (fun i H2 hi h2=>?_) (fun i x H2 H' hi h2 y=>?_) (fun H2 h2=>?_)
 ·obtain ⟨h2,h3⟩:=h2
  have h4:=h2.drop hD
  exact ⟨(e1.trans h4).sqL nmn hS,h4.sqL nmn (SqL.of upd_same)⟩
 ·obtain ⟨h2,h3⟩:=h2
  have h4:=e1.trans (h2.drop hD)
  obtain ⟨T,x1,y1,rfl,hT,rfl,ex,ey⟩:=y
  have ey:(xs.drop 1)[i]?=some y1:=ey
  rw [List.getElem?_drop,Nat.add_comm] at ey
  obtain ⟨d,ed,hd⟩:=DpAll.get hDp ex
  obtain ⟨d',ed',hd'⟩:=DpAll.get (i:=i+1) hDp ey
  have e5:SB [] H (upd H2 T (.tup [x1,y1])):=h4.trans (SB.new hT _)
  have m1:=List.mem_of_getElem? ed
  have m2:=List.mem_of_getElem? ed'
  have hTD:D ≠ T:=fun z=>by subst z; rw [h3] at hT; cases hT
  refine ⟨T,_,rfl,SqT.of upd_same,rfl,_,_,rfl,_,_,rfl,rfl,rfl,?_⟩
  refine ⟨_,rfl,_,rfl,d,d',z01 e5 _ _ (hok d m1).1 hd,z01 e5 _ _ (hok d' m2).1 hd',hal d m1 d' m2,(hok d m1).2.1,(hok d m1).2.2,_,by rw [upd_ne hTD]; exact h3,?_,?_⟩
  ·have:=z33 ds
   rw [List.length_map,List.length_take]
   exact z0s (by omega)
  ·refine ⟨(h2.trans (SB.new hT _)).trans (SB.set (by rw [upd_ne hTD]; exact h3) (by simp) _),?_⟩
   rw [upd_same,List.take_add_one,z96 ds i d d' ed ed']
   simp
 ·obtain ⟨h2,h3⟩:=h2
  have h4:=e1.trans (h2.drop hD)
  have e6:(ltsD ds).take (min xs.length (xs.drop 1).length)=ltsD ds:=by
   apply List.take_of_length_le
   rw [z33,List.length_drop]
   omega
  rw [e6] at h3
  exact ⟨D,_,rfl,SqL.of h3,q _ h4⟩
end
section
variable {P:Program} {w:World} {K:PySem.W.Frag} {mg:Str->Option Value} {base:Heap} {f:Addr} {fd:FuncData}
abbrev zaw:List Str:=["pairs","row","thing","many"]
theorem sc_joined_l:FnScope zaw ["pairs"] (defScope z2v):=⟨rfl,rfl,rfl,by decide +kernel,rfl,by decide +kernel,by decide +kernel⟩
theorem z9x {γ:Type} [DecidableEq γ] {enc:γ->PyData} (hnl:∀ g,z03 (enc g)=true) (heq:∀ g h,PyData.eqv (enc g) (enc h)=decide (g=h)) (B:BI mg) (F:Fun K "joined" "joined" z2v f fd):FnOk P w K mg base CX0 1 f fd ["pairs"] (z7a K enc):=by
 refine F.ok sc_joined_l (fun vs H Q E h=>?_) (fun cdv A outer s H vs Q E hr h=>?_)
 ·obtain ⟨a,xs,bs,rfl,_⟩:=h
  rfl
 obtain ⟨a,xs,bs,rfl,hs,hb,hl,hsh,q⟩:=h
 have hun2:=hunT hr
 refine ⟨_,pss_cons (ps_set (i:=1) sc_joined_l.nd rfl (.inl rfl) (pe_lst pa_nil))
  (pss_cons (ps_for PassesOwn.never rfl (pi_list (pv 0)) (pg_tup rfl (pgs_cons (pg_name (i:=2) sc_joined_l.nd rfl (.inl rfl)) (pgs_cons (pg_name (i:=3) sc_joined_l.nd rfl (.inl rfl)) pgs_nil)))
   (pss_one (ps_if (PW.pt (pw_and (pt_truth (pv 1) (by intro _; rfl)) (pw_and1 (pt_cmpR (op_eqD (by show A.units+3+64 < cLine; omega)) (pe_ix ix_tup (pe_ix ix_list (pv 1) (pe_un un_neg pe_int) (fun _ _=>rfl)) pe_int (fun _ _=>rfl)) (pv 2) (nomark _)))))
    (pss_one (ps_asg (pe_tup (pa_cons (pv 2) (pa_cons (pe_op op_add (pe_ix ix_tup (pe_ix ix_list (pv 1) (pe_un un_neg pe_int) (fun _ _=>rfl)) pe_int (fun _ _=>rfl)) (pv 3)) pa_nil))) (pg_sub (pv 1) (pe_un un_neg pe_int) set_list)))
    (pss_one (ps_expr (pe_bm PySem.F.plainAttrs_list PySem.F.slot_list_append PySem.F.type_list_append mt_append (pv 1) (pa_cons (pe_tup (pa_cons (pv 2) (pa_cons (pv 3) pa_nil))) pa_nil)))))))
  (pss_one (ps_ret (pe_callTy call_tuple_of rfl B.tuple boot_tuple (pa_cons (pv 1) pa_nil))))),?_⟩
 refine ⟨(by show 0<=sizeLine; decide),fun D hD=>?_⟩
 have t0:=SB.new (ps:=[]) hD (.lst [])
 refine ⟨_,rfl,a,rfl,⟨xs,t0.sqL nmn hs⟩,?_⟩
 have xl:=hb.length
 refine for_list (K:=K) (a:=a) (xs:=xs) (fun i σ H2=>SB [D] H H2/\∃ acc o2 o3,σ=[some (.ref a),some (.ref D),o2,o3]/\H2 D=some (.lst acc)/\Bears K H2 (z0j enc) acc (jn (bs.take i))) ⟨SB.new hD _,[],none,none,rfl,upd_same,.nil⟩ (fun i σ H2 hi h2=>(h2.1.drop hD).sqL nmn hs) (fun i x σ H2 hx h2=>?_) (fun σ H2 h2=>?_)
 ·obtain ⟨s2,acc,o2,o3,rfl,hD2,hb2⟩:=h2
  have s2':=s2.drop hD
  obtain ⟨p,ep,hpd⟩:=hb.get hx
  have pm:=List.mem_of_getElem? ep
  obtain ⟨ad,ux,rfl,hsx,hdx⟩:=z67 hpd
  have al:=hb2.length
  have jl:=z55 (bs.take i)
  rw [List.length_take] at jl
  have nl:=z1j hnl
  rw [zaf bs i p ep]
  have hdx2:=z01 s2' _ _ (hnl _) hdx
  refine ⟨ad,_,rfl,s2'.sqT hsx,rfl,_,_,rfl,_,_,rfl,rfl,?_⟩
  -- the row ahead: none,or a last one
  have app:z04 (jn (bs.take i)) p=jn (bs.take i)++[p]->tDrop (tBM K "list" rAppend (tVar 1) (tCons (tTup (tCons (tVar 2) (tCons (tVar 3) tNil))) tNil)) { nx:=fun σ H2=>SB [D] H H2/\∃ acc o2 o3,σ=[some (.ref a),some (.ref D),o2,o3]/\H2 D=some (.lst acc)/\Bears K H2 (z0j enc) acc (z04 (jn (bs.take i)) p),rt:=Q } [some (.ref a),some (.ref D),some ux,some (.int p.2)] H2:=by
   intro e
   rw [e]
   refine ⟨_,rfl,.inl ⟨rfl,_,SqL.of hD2⟩,_,rfl,_,rfl,(by show 2<=sizeLine; decide),fun t ht=>?_⟩
   have t3:=SB.new (ps:=[D]) ht (.tup [ux,.int p.2])
   have hD3:(upd H2 t (.tup [ux,.int p.2])) D=some (.lst acc):=by rw [upd_ne (ne_of_none hD2 ht)]; exact hD2
   refine ⟨D,acc,_,rfl,rfl,hD3,z0s (by omega),?_⟩
   have t4:=SB.set (ps:=[D]) hD3 (by simp) (.lst (acc++[.ref t]))
   exact ⟨(s2.trans t3).trans t4,_,_,_,rfl,upd_same,Bears.append ((hb2.sb t3 nl).sb t4 nl) (.cons (z1g (t4.sqT (SqT.of upd_same)) (z01 t4 _ _ (hnl _) (z01 t3 _ _ (hnl _) hdx2))) .nil)⟩
  rcases List.eq_nil_or_concat (jn (bs.take i)) with he | ⟨js,z,he⟩
  ·rw [he] at hb2 app
   cases hb2
   refine ⟨_,rfl,_,.inl ⟨[],SqL.of hD2,rfl⟩,iteF (iteF ?_)⟩
   rw [he]
   exact app rfl
  ·rw [List.concat_eq_append] at he
   rw [he] at hb2 app
   rw [he]
   obtain ⟨us,u,rfl,hus,hu⟩:=hb2.snoc
   obtain ⟨az,uz,rfl,hsz,hdz⟩:=z67 hu
   have zsh:SeqAt.shaped (enc z.1)=true:=by
    obtain ⟨q2,hq2,eq2⟩:=z1l (bs.take i) z (by rw [he]; simp)
    rw [<- eq2]
    exact hsh q2 (List.mem_of_mem_take hq2)
   refine ⟨_,rfl,_,.inl ⟨us++[.ref az],SqL.of hD2,rfl⟩,?_⟩
   have e0:(!(us++[V.ref az]).isEmpty)=true:=by simp
   rw [e0]
   refine iteT ?_
   refine ⟨_,rfl,1,rfl,D,_,_,_,rfl,rfl,SqL.of hD2,z64,az,_,_,_,rfl,rfl,hsz,atI_nat (j:=0) rfl,_,rfl,enc z.1,enc p.1,hdz,hdx2,zsh,hsh p pm,_,rfl,?_⟩
   rw [heq]
   by_cases hz:z.1=p.1
   ·rw [show decide (z.1=p.1)=true by simp [hz]]
    refine iteT ?_
    refine ⟨_,rfl,_,rfl,1,rfl,D,_,_,_,rfl,rfl,SqL.of hD2,z64,az,_,_,_,rfl,rfl,hsz,atI_nat (j:=1) rfl,_,rfl,_,_,rfl,rfl,(by show 2<=sizeLine; decide),fun t ht=>?_⟩
    have t3:=SB.new (ps:=[D]) ht (.tup [ux,.int (z.2+p.2)])
    have hD3:(upd H2 t (.tup [ux,.int (z.2+p.2)])) D=some (.lst (us++[.ref az])):=by rw [upd_ne (ne_of_none hD2 ht)]; exact hD2
    refine ⟨_,rfl,1,rfl,D,_,_,us.length,rfl,rfl,hD3,z93,?_⟩
    rw [z9f]
    have t4:=SB.set (ps:=[D]) hD3 (by simp) (.lst (us++[.ref t]))
    refine ⟨(s2.trans t3).trans t4,_,_,_,rfl,upd_same,?_⟩
    rw [z09,if_pos hz]
    exact Bears.append ((hus.sb t3 nl).sb t4 nl) (.cons (z1g (t4.sqT (SqT.of upd_same)) (z01 t4 _ _ (hnl _) (z01 t3 _ _ (hnl _) hdx2))) .nil)
   ·rw [show decide (z.1=p.1)=false by simp [hz]]
    refine iteF ?_
    exact app (by rw [z09,if_neg hz])
 ·obtain ⟨s2,acc,o2,o3,rfl,hD2,hb2⟩:=h2
  rw [xl,List.take_length] at hb2
  refine ⟨_,rfl,D,acc,rfl,.inl ⟨SqL.of hD2,fun t ht=>?_⟩⟩
  have t3:=SB.new (ps:=[]) ht (.tup acc)
  exact q _ _ _ ((s2.drop hD).trans t3) (SqT.of upd_same) (hb2.sb t3 (z1j hnl))
abbrev zkf:List Str:=["pairs","row","thing","many"]
theorem sc_q56:FnScope zkf ["pairs"] (defScope z2v):=⟨rfl,rfl,rfl,by decide +kernel,rfl,by decide +kernel,by decide +kernel⟩
theorem zhp (B:BI mg) (F:Fun K "joined" "joined" z2v f fd):FnOk P w K mg base CX0 (1) f fd ["pairs"] (z59 K Gr.tEnc):=by
 refine F.ok sc_q56 (fun vs H Q E h=>?_) (fun cdv A outer s H vs Q E hr h=>?_)
 ·obtain ⟨a,xs,bs,rfl,_⟩:=h
  rfl
 obtain ⟨a,xs,bs,rfl,hs,hb,hl,hsh,q⟩:=h
 have hun2:=hunT hr
 refine ⟨_,pss_cons (ps_set (i:=1) sc_q56.nd rfl (.inl rfl) (pe_lst pa_nil))
  (pss_cons (ps_for PassesOwn.never rfl (pi_list (pv 0)) (pg_tup rfl (pgs_cons (pg_name (i:=2) sc_q56.nd rfl (.inl rfl)) (pgs_cons (pg_name (i:=3) sc_q56.nd rfl (.inl rfl)) pgs_nil)))
   (pss_one (ps_if (PW.pt (pw_and (pt_truth (pv 1) (by intro _; rfl)) (pw_and1 (pt_cmpR (z34 (by show A.units+3+195 < cLine; omega)) (pe_ix ix_tup (pe_ix ix_list (pv 1) (pe_un un_neg pe_int) (fun _ _=>rfl)) pe_int (fun _ _=>rfl)) (pv 2) (nomark _))))) (pss_one (ps_asg (pe_tup (pa_cons (pv 2) (pa_cons (pe_op op_add (pe_ix ix_tup (pe_ix ix_list (pv 1) (pe_un un_neg pe_int) (fun _ _=>rfl)) pe_int (fun _ _=>rfl)) (pv 3)) pa_nil))) (pg_sub (pv 1) (pe_un un_neg pe_int) set_list))) (pss_one (ps_expr (pe_bm PySem.F.plainAttrs_list PySem.F.slot_list_append PySem.F.type_list_append mt_append (pv 1) (pa_cons (pe_tup (pa_cons (pv 2) (pa_cons (pv 3) pa_nil))) pa_nil)))))))
  (pss_one (ps_ret (pe_callTy call_tuple_of rfl B.tuple boot_tuple (pa_cons (pv 1) pa_nil))))),?_⟩
 refine ⟨(by show 0<=sizeLine; decide),fun D hD=>?_⟩
 have t0:=SB.new (ps:=[]) hD (.lst [])
 refine ⟨_,rfl,a,rfl,⟨xs,t0.sqL nmn hs⟩,?_⟩
 have xl:=hb.length
 refine for_list (K:=K) (a:=a) (xs:=xs) (fun i σ H2=>SB [D] H H2/\∃ acc o2 o3,σ=[some (.ref a),some (.ref D),o2,o3]/\H2 D=some (.lst acc)/\Bears K H2 (Gr.pEnc) acc (jn (bs.take i))) ⟨SB.new hD _,[],none,none,rfl,upd_same,.nil⟩ (fun i σ H2 hi h2=>(h2.1.drop hD).sqL nmn hs) (fun i x σ H2 hx h2=>?_) (fun σ H2 h2=>?_)
 ·obtain ⟨s2,acc,o2,o3,rfl,hD2,hb2⟩:=h2
  have s2':=s2.drop hD
  obtain ⟨p,ep,hpd⟩:=hb.get hx
  have pm:=List.mem_of_getElem? ep
  obtain ⟨ad,ux,rfl,hsx,hdx⟩:=z67 hpd
  have al:=hb2.length
  have jl:=z55 (bs.take i)
  rw [List.length_take] at jl
  have nl:=z1j Gr.noList_tEnc
  rw [zaf bs i p ep]
  have hdx2:=z01 s2' _ _ (Gr.noList_tEnc _) hdx
  refine ⟨ad,_,rfl,s2'.sqT hsx,rfl,_,_,rfl,_,_,rfl,rfl,?_⟩
  -- the row ahead: none,or a last one
  have app:z04 (jn (bs.take i)) p=jn (bs.take i)++[p]->tDrop (tBM K "list" rAppend (tVar 1) (tCons (tTup (tCons (tVar 2) (tCons (tVar 3) tNil))) tNil)) { nx:=fun σ H2=>SB [D] H H2/\∃ acc o2 o3,σ=[some (.ref a),some (.ref D),o2,o3]/\H2 D=some (.lst acc)/\Bears K H2 (Gr.pEnc) acc (z04 (jn (bs.take i)) p),rt:=Q } [some (.ref a),some (.ref D),some ux,some (.int p.2)] H2:=by
   intro e
   rw [e]
   refine ⟨_,rfl,.inl ⟨rfl,_,SqL.of hD2⟩,_,rfl,_,rfl,(by show 2<=sizeLine; decide),fun t ht=>?_⟩
   have t3:=SB.new (ps:=[D]) ht (.tup [ux,.int p.2])
   have hD3:(upd H2 t (.tup [ux,.int p.2])) D=some (.lst acc):=by rw [upd_ne (ne_of_none hD2 ht)]; exact hD2
   refine ⟨D,acc,_,rfl,rfl,hD3,z23 (by omega),?_⟩
   have t4:=SB.set (ps:=[D]) hD3 (by simp) (.lst (acc++[.ref t]))
   exact ⟨(s2.trans t3).trans t4,_,_,_,rfl,upd_same,Bears.append ((hb2.sb t3 nl).sb t4 nl) (.cons (z1g (t4.sqT (SqT.of upd_same)) (z01 t4 _ _ (Gr.noList_tEnc _) (z01 t3 _ _ (Gr.noList_tEnc _) hdx2))) .nil)⟩
  rcases List.eq_nil_or_concat (jn (bs.take i)) with he | ⟨js,z,he⟩
  ·rw [he] at hb2 app
   cases hb2
   refine ⟨_,rfl,_,.inl ⟨[],SqL.of hD2,rfl⟩,iteF (iteF ?_)⟩
   rw [he]
   exact app rfl
  ·rw [List.concat_eq_append] at he
   rw [he] at hb2 app
   rw [he]
   obtain ⟨us,u,rfl,hus,hu⟩:=hb2.snoc
   obtain ⟨az,uz,rfl,hsz,hdz⟩:=z67 hu
   have zsh:Wd (Gr.tEnc z.1):=by
    obtain ⟨q2,hq2,eq2⟩:=z1l (bs.take i) z (by rw [he]; simp)
    rw [<- eq2]
    exact hsh q2 (List.mem_of_mem_take hq2)
   refine ⟨_,rfl,_,.inl ⟨us++[.ref az],SqL.of hD2,rfl⟩,?_⟩
   have e0:(!(us++[V.ref az]).isEmpty)=true:=by simp
   rw [e0]
   refine iteT ?_
   refine ⟨_,rfl,1,rfl,D,_,_,_,rfl,rfl,SqL.of hD2,z64,az,_,_,_,rfl,rfl,hsz,atI_nat (j:=0) rfl,_,rfl,Gr.tEnc z.1,Gr.tEnc p.1,hdz,hdx2,zsh,hsh p pm,_,rfl,?_⟩
   rw [Gr.t_eqv]
   by_cases hz:z.1=p.1
   ·rw [show decide (z.1=p.1)=true by simp [hz]]
    refine iteT ?_
    refine ⟨_,rfl,_,rfl,1,rfl,D,_,_,_,rfl,rfl,SqL.of hD2,z64,az,_,_,_,rfl,rfl,hsz,atI_nat (j:=1) rfl,_,rfl,_,_,rfl,rfl,(by show 2<=sizeLine; decide),fun t ht=>?_⟩
    have t3:=SB.new (ps:=[D]) ht (.tup [ux,.int (z.2+p.2)])
    have hD3:(upd H2 t (.tup [ux,.int (z.2+p.2)])) D=some (.lst (us++[.ref az])):=by rw [upd_ne (ne_of_none hD2 ht)]; exact hD2
    refine ⟨_,rfl,1,rfl,D,_,_,us.length,rfl,rfl,hD3,z93,?_⟩
    rw [z9f]
    have t4:=SB.set (ps:=[D]) hD3 (by simp) (.lst (us++[.ref t]))
    refine ⟨(s2.trans t3).trans t4,_,_,_,rfl,upd_same,?_⟩
    rw [z09,if_pos hz]
    exact Bears.append ((hus.sb t3 nl).sb t4 nl) (.cons (z1g (t4.sqT (SqT.of upd_same)) (z01 t4 _ _ (Gr.noList_tEnc _) (z01 t3 _ _ (Gr.noList_tEnc _) hdx2))) .nil)
   ·rw [show decide (z.1=p.1)=false by simp [hz]]
    refine iteF ?_
    exact app (by rw [z09,if_neg hz])
 ·obtain ⟨s2,acc,o2,o3,rfl,hD2,hb2⟩:=h2
  rw [xl,List.take_length] at hb2
  refine ⟨_,rfl,D,acc,rfl,.inl ⟨SqL.of hD2,fun t ht=>?_⟩⟩
  have t3:=SB.new (ps:=[]) ht (.tup acc)
  exact q _ _ _ ((s2.drop hD).trans t3) (SqT.of upd_same) (hb2.sb t3 (z1j Gr.noList_tEnc))
abbrev z9e:List Str:=["pairs","thing","other","many"]
theorem sc_q62:FnScope z9e ["pairs","thing"] (defScope z46):=⟨rfl,rfl,rfl,by decide +kernel,rfl,by decide +kernel,by decide +kernel⟩
theorem zif (B:BI mg) (F:Fun K "many_at" "many_at" z46 f fd):FnOk P w K mg base CX0 1 f fd ["pairs","thing"] (z73 K):=by
 refine F.ok sc_q62 (fun vs H Q E h=>?_) (fun cdv A outer s H vs Q E hr h=>?_)
 ·obtain ⟨v,u,l,e,rfl,_⟩:=h
  rfl
 obtain ⟨v,u,l,e,rfl,hv,hu,hd,hd2,hp,q⟩:=h
 have hun2:=hunT hr
 refine ⟨_,pss_one (ps_ret (pe_callB (cr_sum rfl) rfl B.sum boot_sum (pa_cons
  (pe_lc (own:=[("other",2),("many",3)]) (g:=gTup K 2 (gCons (gName 2) (gCons (gName 3) gNil))) (tt:=tTest (tOp (rEqD K) (tVar 2) (tVar 1))) (te:=tVar 3) rfl sc_q62.nd (pi_tup (pv 0))
   (blkOk_by (N:=z9e) (sc:=defScope z46) (by decide +kernel))
   (fun _ _ _ _ _=>pg_tup rfl (pgs_cons (pg_name (i:=2) sc_q62.nd rfl (.inl rfl)) (pgs_cons (pg_name (i:=3) sc_q62.nd rfl (.inl rfl)) pgs_nil)))
   (fun _ _ _ _ _=>pts_one (pt_cmpR (op_eqD (by show A.units+3+64 < cLine; omega)) (pv 2) (pv 1) (nomark _)))
   (fun _ _ _ _ _=>pv 3)) pa_nil))),?_⟩
 obtain ⟨a,xs,rfl,hs,hb⟩:=z0q hv
 have bl:=hb.length
 have lp:=l.len_parts
 rw [<- Lad.ps_length] at lp
 refine ⟨_,rfl,a,rfl,⟨xs,hs⟩,fun D hD=>?_⟩
 refine lc_it (walk_tup (xs:=xs)) (fun i H2=>SB [D] H H2/\H2 D=some (.lst ((((l.ps.take i).filter fun p=>decide (p.1=e)).map (·.2)).map V.int))) ⟨SB.new hD _,upd_same⟩ (fun i H2 hi h2=>(h2.1.drop hD).sqT hs) (fun i x H2 H' hi h2 y=>?_) (fun H2 h2=>?_)
 ·obtain ⟨s2,hD2⟩:=h2
  obtain ⟨rfl,ex⟩:=y
  have s2':=s2.drop hD
  obtain ⟨b,eb,hbd⟩:=hb.get ex
  obtain ⟨ad,ux,rfl,hs2,hla⟩:=z10 hbd
  have bd:=l.mem_deep b (List.mem_of_getElem? eb)
  refine ⟨ad,_,rfl,s2'.sqT hs2,rfl,_,_,rfl,_,_,rfl,rfl,rfl,?_⟩
  refine ⟨_,rfl,_,rfl,b.1.enc,e.enc,hla.sb s2',hu.sb s2',Lad.shaped_enc (by omega),Lad.shaped_enc (by omega),_,rfl,?_⟩
  rw [Lad.eqv_enc]
  have fl:=List.length_filter_le (fun p:Lad × Int=>decide (p.1=e)) (l.ps.take i)
  rw [List.length_take] at fl
  by_cases he:b.1=e
  ·rw [show decide (b.1=e)=true by simp [he]]
   refine iteT ?_
   refine ⟨_,rfl,_,hD2,?_,?_⟩
   ·rw [List.length_map,List.length_map]; exact z0s (by omega)
   ·refine ⟨s2.trans (SB.set hD2 (by simp) _),?_⟩
    rw [upd_same,List.take_add_one,eb,List.filter_append]
    simp [he]
  ·rw [show decide (b.1=e)=false by simp [he]]
   refine iteF ?_
   refine ⟨s2,?_⟩
   rw [hD2,List.take_add_one,eb,List.filter_append]
   simp [he]
 ·obtain ⟨s2,hD2⟩:=h2
  rw [bl,List.take_length] at hD2
  exact ⟨D,_,rfl,SqL.of hD2,q _ (s2.drop hD)⟩
theorem sc_q75:FnScope ["text","at","signs","end"] ["text","at","signs"] (defScope z6a):=⟨rfl,rfl,rfl,by decide +kernel,rfl,by decide +kernel,by decide +kernel⟩
theorem zj4 (B:BI mg) (F:Fun K "run_of" "run_of" z6a f fd):FnOk P w K mg base CX0 1 f fd ["text","at","signs"] (z8e K):=by
 refine F.ok sc_q75 (fun vs H Q E h=>?_) (fun cdv A outer s H vs Q E hr h=>?_)
 ·obtain ⟨z,y,k,rfl,_⟩:=h
  rfl
 obtain ⟨z,y,k,rfl,hz,hk,q⟩:=h
 refine ⟨_,pss_cons (ps_set (i:=3) sc_q75.nd rfl (.inl rfl) (pv 1))
  (pss_cons (ps_while PassesOwn.never (PW.pt (pw_and (pt_cmpR op_lt (pv 3) (pe_callB call_len_str rfl B.len PySem.boot_len (pa_cons (pv 0) pa_nil)) (nomark _)) (pw_and1 (pt_cmpR op_in_sign (pe_ix ix_str (pv 0) (pv 3) (fun _ _=>rfl)) (pv 2) (by rfl)))))
   (pss_one (ps_aug (i:=3) sc_q75.nd rfl (.inl rfl) pe_int ip_add)))
  (pss_one (ps_ret (pe_slice sl_str (pv 0) (po_some (pv 1)) (po_some (pv 3)))))),?_⟩
 have hzl:z.length<=sizeLine:=by have:=sizeLine_eq; omega
 have hl:=z6k z
 refine ⟨_,rfl,?_⟩
 refine ⟨fun mm σ H2=>∃ e:Nat,mm=z.length-e/\H2=H/\σ=[some (.str z),some (.int (k:Int)),some (.str y),some (.int (e:Int))]/\k<=e/\e<=z.length/\(∀ j c,k<=j->j < e->z.cps.toList[j]?=some c->c ∈ y.cps.toList),⟨_,k,rfl,rfl,rfl,Nat.le_refl _,hk,fun j c h1 h2 _=>by omega⟩,fun mm σ H2 h2=>?_⟩
 obtain ⟨e,rfl,rfl,rfl,ke,el,hin⟩:=h2
 refine ⟨_,rfl,_,rfl,z,rfl,hzl,_,_,rfl,rfl,_,rfl,?_⟩
 have fin:(∀ c,z.cps.toList[e]?=some c->c ∉ y.cps.toList)->Q (.str (cutS z (some (k:Int)) (some (e:Int)))) H2:=fun ho=>q e ke el hin ho
 by_cases hlt:e < z.length
 ·rw [show decide ((e:Int) < (z.length:Int))=true from decide_eq_true (by omega)]
  refine iteT ?_
  obtain ⟨c,hc⟩:∃ c,z.cps.toList[e]?=some c:=⟨_,List.getElem?_eq_getElem (by omega)⟩
  refine ⟨_,rfl,_,rfl,z,_,c,rfl,rfl,hzl,z3x hc,_,rfl,c,y,rfl,rfl,_,rfl,?_⟩
  by_cases hm:c ∈ y.cps.toList
  ·rw [decide_eq_true hm]
   refine iteT ?_
   refine ⟨_,fun σ' H' z=>z,?_⟩
   refine ⟨_,rfl,_,_,rfl,rfl,z.length-(e+1),by omega,e+1,rfl,rfl,rfl,by omega,by omega,fun j c' h1 h2 h3=>?_⟩
   rcases Nat.lt_or_ge j e with h | h
   ·exact hin j c' h1 h h3
   ·have:j=e:=by omega
    subst this
    rw [hc] at h3; cases h3; exact hm
  ·rw [decide_eq_false hm]
   refine iteF ?_
   refine ⟨_,rfl,_,rfl,_,rfl,_,rfl,_,rfl,z,rfl,hzl,fin fun c' h'=>?_⟩
   rw [hc] at h'; cases h'; exact hm
 ·rw [show decide ((e:Int) < (z.length:Int))=false from decide_eq_false (by omega)]
  refine iteF (iteF ?_)
  refine ⟨_,rfl,_,rfl,_,rfl,_,rfl,_,rfl,z,rfl,hzl,fin fun c' h'=>?_⟩
  have:=(List.getElem?_eq_some_iff.mp h').1
  omega
theorem zk2:FnScope ["thing"] ["thing"] (defScope z5t):=⟨rfl,rfl,rfl,by decide +kernel,rfl,by decide +kernel,by decide +kernel⟩
theorem zd3 {ps:List Str} {k:Nat}:FnOk P w K mg base CX0 k f fd ps (z1w K 0):=z0o fun vs H Q E ⟨v,d,_,_,h,_⟩=>by omega
theorem zia {n:Nat} (B:BI mg) (GN:Got P w K mg base "is_name" ["thing"] 2 (z7s K)) (G:Got P w K mg base "is_grove" ["thing"] (n+3) (z1e K n)) (F:Fun K "is_tree" "is_tree" z5t f fd) :
  FnOk P w K mg base CX0 (n+4) f fd ["thing"] (z1w K (n+1)):=by
 refine F.ok zk2 (fun vs H Q E h=>?_) (fun cdv A outer s H vs Q E hr h=>?_)
 ·obtain ⟨v,l,rfl,_⟩:=h
  rfl
 obtain ⟨v,d,rfl,th,hd,h80,hw,q⟩:=h
 refine ⟨_,pss_one (ps_ret (pe_and (z0t B (pv 0) B.tuple boot_tuple) (pe_and (pe_cmpR op_eq (pe_callB call_len_seq rfl B.len PySem.boot_len (pa_cons (pv 0) pa_nil)) pe_int (nomark _))
  (pe_and (z00 GN (hr.mono (by omega)) rfl (pa_cons (pe_ix ix_tup (pv 0) pe_int (fun _ _=>rfl)) pa_nil)) (pe_one (z00 G hr rfl (pa_cons (pe_ix ix_tup (pv 0) pe_int (fun _ _=>rfl)) pa_nil))))))),?_⟩
 obtain ⟨n1,b,ty,kb,y1,y2⟩:=th.ty
 refine ⟨_,rfl,_,_,n1,b,rfl,ty,kb,b,rfl,?_⟩
 cases b with
 | false =>
  refine iteF ?_
  have e:z0l d=false:=by
   cases d with
   | tuple ds=>exact absurd rfl (y2 rfl ds)
   | _=>simp [z0l]
  have:=q H SB.refl
  rw [e] at this
  exact this
 | true =>
 refine iteT ?_
 obtain ⟨a,xs,ds,rfl,rfl,hs,ha⟩:=y1 rfl
 refine ⟨_,rfl,a,xs,rfl,.inr hs,rfl,_,rfl,?_⟩
 have hl:=TgAll.length ha
 refine ite2 (fun c=>?_) (fun c=>?_)
 ·have c':V.int (xs.length:Nat)=V.int 2:=of_decide_eq_true c
  injection c' with c'
  have c2:xs.length=2:=by omega
  cases ha with
  | nil=>simp at c2
  | cons t1 ta =>
   cases ta with
   | nil=>simp at c2
   | cons t2 ta =>
    cases ta with
    | cons t3 ta=>simp at c2
    | nil =>
     rename_i v1 d1 v2 d2
     have q1:d2.depth < PyData.depth (.tuple [d1,d2]):=by simp only [PyData.depth,PyData.depthAll]; omega
     have q2:wide d2<=wide (.tuple [d1,d2]):=by simp only [wide,z14]; omega
     refine ⟨_,rfl,a,_,_,_,rfl,rfl,hs,atI_nat (j:=0) rfl,v1,d1,rfl,t1,fun H1 h1=>?_⟩
     refine ⟨_,rfl,?_⟩
     cases e1:z1a d1 with
     | false =>
      refine iteF ?_
      have:=q H1 h1
      have e:z0l (.tuple [d1,d2])=false:=by simp [z0l,trD2,e1]
      rw [e] at this
      exact this
     | true =>
      refine iteT ?_
      refine ⟨_,rfl,a,_,_,_,rfl,rfl,h1.sqT hs,atI_nat (j:=1) rfl,v2,d2,rfl,z20 h1 t2,by omega,by omega,by omega,fun H2 h2=>?_⟩
      have:=q H2 (h1.trans h2)
      have e:z0l (.tuple [d1,d2])=z0a d2:=by simp [z0l,trD2,trD3,e1]
      rw [e] at this
      exact this
 ·have c':¬ V.int (xs.length:Nat)=V.int 2:=of_decide_eq_false (Bool.eq_false_iff.mpr c)
  have c2:¬ xs.length=2:=fun z=>c' (by rw [z]; rfl)
  have e:z0l (.tuple ds)=false:=by
   cases e:z0l (.tuple ds) with
   | false=>rfl
   | true =>
    obtain ⟨t,e2⟩:=z9d _ e
    injection e2 with e2
    rw [e2] at hl
    exact absurd hl c2
  have:=q H SB.refl
  rw [e] at this
  exact this
abbrev zfk:List Str:=["thing","pair"]
theorem sc_q46:FnScope zfk ["thing"] (defScope z3k):=⟨rfl,rfl,rfl,by decide +kernel,rfl,by decide +kernel,by decide +kernel⟩
theorem zd9 {ps:List Str} {k:Nat}:FnOk P w K mg base CX0 k f fd ps (z1e K 0):=z0o fun vs H Q E ⟨v,d,_,_,h,_⟩=>by omega
theorem zbk (bs:List (Tr × Int)):(bs.map Gr.pEnc).map exp0=bs.map fun p=>Gr.tEnc p.1:=by rw [List.map_map]; rfl
theorem z6u:∀ bs:List (Tr × Int),z07 (bs.map fun p=>Gr.tEnc p.1)=true
 | []=>by simp [z07]
 | p::r=>by rw [List.map_cons,z07,z6u r,Gr.noList_tEnc]; rfl
theorem zhf {n:Nat} (B:BI mg) (GR:Got P w K mg base "is_rising" ["things"] 1 (z7i K)) (G:Got P w K mg base "are_grove_pairs" ["things"] (n+3) (z1q K true n)) (F:Fun K "is_grove" "is_grove" z3k f fd) :
  FnOk P w K mg base CX0 (n+4) f fd ["thing"] (z1e K (n+1)):=by
 refine F.ok sc_q46 (fun vs H Q E h=>?_) (fun cdv A outer s H vs Q E hr h=>?_)
 ·obtain ⟨v,l,rfl,_⟩:=h
  rfl
 obtain ⟨v,d,rfl,th,hd,h80,hw,q⟩:=h
 refine ⟨_,pss_cons (ps_if (PW.pt (pw_or (pt_not (pt_val (z0t B (pv 0) B.tuple boot_tuple))) (pw_or1 (pt_not (pt_val (z00 G hr rfl (pa_cons (pv 0) pa_nil))))))) (pss_one (ps_ret pe_bl)) pss_nil)
  (pss_one (ps_ret (z00 GR (hr.mono (by omega)) rfl (pa_cons (pe_lc (own:=[("pair",1)]) (g:=gName 1) (tt:=tYes) (te:=tOp (rIxT K) (tVar 1) (tC (.int 0))) rfl sc_q46.nd
   (pi_tup (pv 0))
   (blkOk_by (N:=zfk) (sc:=defScope z3k) (by decide +kernel))
   (fun _ _ _ _ _=>pg_name (i:=1) sc_q46.nd rfl (.inl rfl))
   (fun _ _ _ _ _=>pts_nil)
   (fun _ _ _ _ _=>pe_ix ix_tup (pv 1) pe_int (fun _ _=>rfl))) pa_nil)))),?_⟩
 obtain ⟨n1,b,ty,kb,y1,y2⟩:=th.ty
 refine ⟨_,rfl,_,_,n1,b,rfl,ty,kb,b,rfl,?_⟩
 cases b with
 | false =>
  refine iteT (iteT ?_)
  have e:z0a d=false:=by
   cases d with
   | tuple ds=>exact absurd rfl (y2 rfl ds)
   | _=>simp [z0a]
  have:=q H SB.refl
  rw [e] at this
  exact this
 | true =>
 refine iteF ?_
 obtain ⟨a,xs,ds,rfl,rfl,hs,ha⟩:=y1 rfl
 have hl:=TgAll.length ha
 have m3:PyData.depth (.tuple ds)=PyData.depthAll ds+1:=by simp [PyData.depth]
 refine ⟨_,rfl,a,xs,ds,rfl,by simpa using hs,ha,by omega,by omega,hw,fun H2 h2=>⟨_,rfl,?_⟩⟩
 cases e1:grPs ds with
 | false =>
  refine iteT ?_
  have:=q H2 h2
  rw [z0a,e1] at this
  exact this
 | true =>
  refine iteF ?_
  obtain ⟨g,rfl⟩:=z77 ds e1
  have hga:GA K H (.ref a) g:=Dp.tup hs (z45 g ha)
  obtain ⟨a',xs',e',hs',hb⟩:=z0i (hga.sb h2)
  cases e'
  have hlen:=hb.length
  have gl:g.encs.length=g.ps.length:=by rw [Gr.encs_ps,List.length_map]
  rw [z3p] at hw
  refine ⟨_,rfl,a,rfl,⟨xs',hs'⟩,fun D hD=>?_⟩
  refine lc_it (walk_tup (xs:=xs')) (fun i H3=>SB [D] H2 H3/\∃ acc,H3 D=some (.lst acc)/\DpAll K H3 acc ((g.ps.take i).map fun p=>Gr.tEnc p.1)) ⟨SB.new hD _,[],upd_same,.nil⟩ (fun i H3 hi h3=>(h3.1.drop hD).sqT hs') (fun i x H3 H' hi h3 y=>?_) (fun H3 h3=>?_)
  ·obtain ⟨h3,acc,h4,h5⟩:=h3
   obtain ⟨rfl,ex⟩:=y
   obtain ⟨p,ep,hpd⟩:=hb.get ex
   obtain ⟨ad,bd,ux,rfl,hsx,hst,hdx,hdt⟩:=z0h hpd
   have h6:=h3.drop hD
   have hla2:=DpAll.length h5
   refine ⟨rfl,?_⟩
   refine ⟨_,rfl,ad,_,_,_,rfl,rfl,h6.sqT hsx,atI_nat (j:=0) rfl,acc,h4,?_,?_⟩
   ·rw [hla2,List.length_map,List.length_take]
    exact z0s (by omega)
   ·have h7:=SB.set (ps:=[D]) h4 (by simp) (.lst (acc++[.ref bd]))
    refine ⟨h3.trans h7,_,upd_same,?_⟩
    rw [List.take_add_one,ep,List.map_append]
    exact DpAll.append (z7g h7 _ _ (z6u _) h5) (.cons (z01 h7 _ _ (Gr.noList_tEnc _) (z01 h6 _ _ (Gr.noList_tEnc _) hdt)) .nil)
  ·obtain ⟨h3',acc,h4,h5⟩:=h3
   rw [hlen,List.take_length] at h5
   have h6:=h3'.drop hD
   have hla2:=DpAll.length h5
   refine ⟨D,acc,g.ps.map fun p=>Gr.tEnc p.1,rfl,SqL.of h4,h5,?_,?_,?_,fun H9 h9=>?_⟩
   ·intro d hd'
    obtain ⟨p1,m1,rfl⟩:=List.mem_map.mp hd'
    have hd2:(Gr.pEnc p1).depth<=PyData.depthAll g.encs:=PyData.depth_le_depthAll _ _ (by rw [Gr.encs_ps]; exact List.mem_map_of_mem m1)
    have hd3:(Gr.tEnc p1.1).depth < (Gr.pEnc p1).depth:=by
     show _ < (PyData.tuple [Gr.tEnc p1.1,.int p1.2]).depth
     simp only [PyData.depth,PyData.depthAll]; omega
    exact ⟨Gr.noList_tEnc _,(fun z:Gr.tEnc p1.1=.none=>by simp [Gr.tEnc] at z),by omega⟩
   ·intro d hd' d2 hd2
    obtain ⟨p1,_,rfl⟩:=List.mem_map.mp hd'
    obtain ⟨p2,_,rfl⟩:=List.mem_map.mp hd2
    exact Orderly.al (enc:=Gr.tEnc) _ _
   ·rw [hla2,List.length_map]; omega
   ·have:=q H9 ((h2.trans h6).trans h9)
    rw [z0a,e1,Bool.true_and,Gr.encs_ps,zbk] at this
    exact this
abbrev za0:List Str:=["things","thing"]
theorem sc_q30:FnScope za0 ["things"] (defScope z3n):=⟨rfl,rfl,rfl,by decide +kernel,rfl,by decide +kernel,by decide +kernel⟩
theorem zd0 {ps:List Str} {tp:Bool} {k:Nat}:FnOk P w K mg base CX0 k f fd ps (z1q K tp 0):=z0o fun vs H Q E ⟨a,xs,ds,_,_,_,h,_⟩=>by omega
theorem z2e:∀ ds:List PyData,grPs ds=ds.all grP
 | []=>by rw [grPs]; rfl
 | d::ds=>by rw [grPs,z2e ds]; rfl
theorem zjv {n:Nat} (B:BI mg) (GM:Got P w K mg base "is_many" ["thing"] 2 (z7x K [])) (G:Got P w K mg base "is_tree" ["thing"] (n+3) (z1w K n)) (F:Fun K "are_grove_pairs" "are_grove_pairs" z3n f fd) :
  FnOk P w K mg base CX0 (n+4) f fd ["things"] (z1q K true (n+1)):=by
 refine F.ok sc_q30 (fun vs H Q E h=>?_) (fun cdv A outer s H vs Q E hr h=>?_)
 ·obtain ⟨a,xs,ds,rfl,_⟩:=h
  rfl
 obtain ⟨a,xs,ds,rfl,hs,ha,hd,h79,hw,q⟩:=h
 refine ⟨_,pss_cons (ps_for PassesOwn.never rfl (pi_tup (pv 0)) (pg_name (i:=1) sc_q30.nd rfl (.inl rfl))
   (pss_cons (ps_if (PW.pt (pw_or (pt_not (pt_val (z0t B (pv 1) B.tuple boot_tuple))) (pw_or1 (pt_cmpR op_ne (pe_callB call_len_seq rfl B.len PySem.boot_len (pa_cons (pv 1) pa_nil)) pe_int (nomark _))))) (pss_one (ps_ret pe_bl)) pss_nil)
   (pss_one (ps_if (PW.pt (pw_or (pt_not (pt_val (z00 G hr rfl (pa_cons (pe_ix ix_tup (pv 1) pe_int (fun _ _=>rfl)) pa_nil)))) (pw_or1 (pt_not (pt_val (z00 GM (hr.mono (by omega)) rfl (pa_cons (pe_ix ix_tup (pv 1) pe_int (fun _ _=>rfl)) pa_nil))))))) (pss_one (ps_ret pe_bl)) pss_nil))))
  (pss_one (ps_ret pe_bl)),?_⟩
 have hs:SqT K H a xs:=by simpa using hs
 have hl:=TgAll.length ha
 rw [z3p] at hw
 refine ⟨_,rfl,a,rfl,⟨xs,hs⟩,?_⟩
 refine for_tup (K:=K) (a:=a) (xs:=xs) (fun i σ H2=>SB [] H H2/\(∃ o,σ=[some (.ref a),o])/\(ds.take i).all grP=true) ⟨SB.refl,⟨none,rfl⟩,by simp⟩ (fun i σ H2 hi h2=>h2.1.sqT hs) (fun i x σ H2 hx h2=>?_) (fun σ H2 h2=>?_)
 ·obtain ⟨h2,⟨o,rfl⟩,h3⟩:=h2
  obtain ⟨dx,ex,tx⟩:=TgAll.get ha hx
  have mx:=List.mem_of_getElem? ex
  have m1:=z4r ex
  have m2:=z71 _ _ mx
  have no:grP dx=false->∀ H',SB [] H2 H'->Q (.bl false) H':=fun e H' s'=>by
   have:=q H' (h2.trans s')
   have e2:grPs ds=false:=by
    rw [z2e,List.all_eq_false]
    exact ⟨dx,mx,by rw [e]; exact Bool.false_ne_true⟩
   rw [e2] at this
   exact this
  obtain ⟨n1,b,ty,kb,y1,y2⟩:=(z20 h2 tx).ty
  refine ⟨_,rfl,_,_,n1,b,rfl,ty,kb,b,rfl,?_⟩
  cases b with
  | false =>
   refine iteT (iteT (no ?_ _ SB.refl))
   cases dx with
   | tuple ds=>exact absurd rfl (y2 rfl ds)
   | _=>simp [grP]
  | true =>
  refine iteF ?_
  obtain ⟨b1,ys,es,rfl,rfl,hs1,ha1⟩:=y1 rfl
  refine ⟨_,rfl,b1,ys,rfl,.inr hs1,rfl,_,rfl,?_⟩
  have hl1:=TgAll.length ha1
  by_cases c2:ys.length=2
  ·rw [show (!decide (V.int (ys.length:Nat)=V.int 2))=false by rw [c2]; rfl]
   refine iteF ?_
   cases ha1 with
   | nil=>simp at c2
   | cons t1 ta =>
    cases ta with
    | nil=>simp at c2
    | cons t2 ta =>
     cases ta with
     | cons t3 ta=>simp at c2
     | nil =>
      rename_i v1 d1 v2 d2
      have q1:d1.depth < PyData.depth (.tuple [d1,d2]):=by simp only [PyData.depth,PyData.depthAll]; omega
      have q2:wide d1<=wide (.tuple [d1,d2]):=by simp only [wide,z14]; omega
      refine ⟨_,rfl,b1,_,_,_,rfl,rfl,hs1,atI_nat (j:=0) rfl,v1,d1,rfl,t1,by omega,by omega,by omega,fun H3 h3'=>?_⟩
      refine ⟨_,rfl,?_⟩
      cases e1:z0l d1 with
      | false=>exact iteT (iteT (no (by simp [grP,grP2,e1]) _ h3'))
      | true =>
       refine iteF ?_
       refine ⟨_,rfl,b1,_,_,_,rfl,rfl,h3'.sqT hs1,atI_nat (j:=1) rfl,v2,z1z d2,rfl,(z20 h3' t2).th,_,rfl,?_⟩
       rw [z81]
       have e:grP (.tuple [d1,d2])=z0u d2:=by simp [grP,grP2,z0y,e1]
       cases e2:z0u d2 with
       | false=>exact iteT (no (by rw [e,e2]) _ h3')
       | true =>
        refine iteF ⟨h2.trans h3',⟨_,rfl⟩,?_⟩
        rw [List.take_add_one,ex,List.all_append,h3]
        simp [e,e2]
  ·rw [show (!decide (V.int (ys.length:Nat)=V.int 2))=true by rw [decide_eq_false (fun z=>by injection z with z; omega)]; rfl]
   refine iteT (no ?_ _ SB.refl)
   cases e:grP (.tuple es) with
   | false=>rfl
   | true =>
    obtain ⟨t,i,e2,_⟩:=z89 _ e
    injection e2 with e2
    rw [e2] at hl1
    exact absurd hl1 c2
 ·obtain ⟨h2,⟨o,rfl⟩,h3⟩:=h2
  rw [hl,List.take_length,<- z2e] at h3
  have:=q H2 h2
  rw [h3] at this
  exact this
theorem z4q {n:Nat} (B:BI mg) (GM:Got P w K mg base "is_many" ["thing"] 2 (z7x K [])) (G:Got P w K mg base "is_tree" ["thing"] (n+3) (z1w K n)) (F:Fun K "are_grove_pairs" "are_grove_pairs" z3n f fd) :
  FnOk P w K mg base CX0 (n+4) f fd ["things"] (z1q K false (n+1)):=by
 refine F.ok sc_q30 (fun vs H Q E h=>?_) (fun cdv A outer s H vs Q E hr h=>?_)
 ·obtain ⟨a,xs,ds,rfl,_⟩:=h
  rfl
 obtain ⟨a,xs,ds,rfl,hs,ha,hd,h79,hw,q⟩:=h
 refine ⟨_,pss_cons (ps_for PassesOwn.never rfl (pi_list (pv 0)) (pg_name (i:=1) sc_q30.nd rfl (.inl rfl))
   (pss_cons (ps_if (PW.pt (pw_or (pt_not (pt_val (z0t B (pv 1) B.tuple boot_tuple))) (pw_or1 (pt_cmpR op_ne (pe_callB call_len_seq rfl B.len PySem.boot_len (pa_cons (pv 1) pa_nil)) pe_int (nomark _))))) (pss_one (ps_ret pe_bl)) pss_nil)
   (pss_one (ps_if (PW.pt (pw_or (pt_not (pt_val (z00 G hr rfl (pa_cons (pe_ix ix_tup (pv 1) pe_int (fun _ _=>rfl)) pa_nil)))) (pw_or1 (pt_not (pt_val (z00 GM (hr.mono (by omega)) rfl (pa_cons (pe_ix ix_tup (pv 1) pe_int (fun _ _=>rfl)) pa_nil))))))) (pss_one (ps_ret pe_bl)) pss_nil))))
  (pss_one (ps_ret pe_bl)),?_⟩
 have hs:SqL K H a xs:=by simpa using hs
 have hl:=TgAll.length ha
 rw [z3p] at hw
 refine ⟨_,rfl,a,rfl,⟨xs,hs⟩,?_⟩
 refine for_list (K:=K) (a:=a) (xs:=xs) (fun i σ H2=>SB [] H H2/\(∃ o,σ=[some (.ref a),o])/\(ds.take i).all grP=true) ⟨SB.refl,⟨none,rfl⟩,by simp⟩ (fun i σ H2 hi h2=>h2.1.sqL nmn hs) (fun i x σ H2 hx h2=>?_) (fun σ H2 h2=>?_)
 ·obtain ⟨h2,⟨o,rfl⟩,h3⟩:=h2
  obtain ⟨dx,ex,tx⟩:=TgAll.get ha hx
  have mx:=List.mem_of_getElem? ex
  have m1:=z4r ex
  have m2:=z71 _ _ mx
  have no:grP dx=false->∀ H',SB [] H2 H'->Q (.bl false) H':=fun e H' s'=>by
   have:=q H' (h2.trans s')
   have e2:grPs ds=false:=by
    rw [z2e,List.all_eq_false]
    exact ⟨dx,mx,by rw [e]; exact Bool.false_ne_true⟩
   rw [e2] at this
   exact this
  obtain ⟨n1,b,ty,kb,y1,y2⟩:=(z20 h2 tx).ty
  refine ⟨_,rfl,_,_,n1,b,rfl,ty,kb,b,rfl,?_⟩
  cases b with
  | false =>
   refine iteT (iteT (no ?_ _ SB.refl))
   cases dx with
   | tuple ds=>exact absurd rfl (y2 rfl ds)
   | _=>simp [grP]
  | true =>
  refine iteF ?_
  obtain ⟨b1,ys,es,rfl,rfl,hs1,ha1⟩:=y1 rfl
  refine ⟨_,rfl,b1,ys,rfl,.inr hs1,rfl,_,rfl,?_⟩
  have hl1:=TgAll.length ha1
  by_cases c2:ys.length=2
  ·rw [show (!decide (V.int (ys.length:Nat)=V.int 2))=false by rw [c2]; rfl]
   refine iteF ?_
   cases ha1 with
   | nil=>simp at c2
   | cons t1 ta =>
    cases ta with
    | nil=>simp at c2
    | cons t2 ta =>
     cases ta with
     | cons t3 ta=>simp at c2
     | nil =>
      rename_i v1 d1 v2 d2
      have q1:d1.depth < PyData.depth (.tuple [d1,d2]):=by simp only [PyData.depth,PyData.depthAll]; omega
      have q2:wide d1<=wide (.tuple [d1,d2]):=by simp only [wide,z14]; omega
      refine ⟨_,rfl,b1,_,_,_,rfl,rfl,hs1,atI_nat (j:=0) rfl,v1,d1,rfl,t1,by omega,by omega,by omega,fun H3 h3'=>?_⟩
      refine ⟨_,rfl,?_⟩
      cases e1:z0l d1 with
      | false=>exact iteT (iteT (no (by simp [grP,grP2,e1]) _ h3'))
      | true =>
       refine iteF ?_
       refine ⟨_,rfl,b1,_,_,_,rfl,rfl,h3'.sqT hs1,atI_nat (j:=1) rfl,v2,z1z d2,rfl,(z20 h3' t2).th,_,rfl,?_⟩
       rw [z81]
       have e:grP (.tuple [d1,d2])=z0u d2:=by simp [grP,grP2,z0y,e1]
       cases e2:z0u d2 with
       | false=>exact iteT (no (by rw [e,e2]) _ h3')
       | true =>
        refine iteF ⟨h2.trans h3',⟨_,rfl⟩,?_⟩
        rw [List.take_add_one,ex,List.all_append,h3]
        simp [e,e2]
  ·rw [show (!decide (V.int (ys.length:Nat)=V.int 2))=true by rw [decide_eq_false (fun z=>by injection z with z; omega)]; rfl]
   refine iteT (no ?_ _ SB.refl)
   cases e:grP (.tuple es) with
   | false=>rfl
   | true =>
    obtain ⟨t,i,e2,_⟩:=z89 _ e
    injection e2 with e2
    rw [e2] at hl1
    exact absurd hl1 c2
 ·obtain ⟨h2,⟨o,rfl⟩,h3⟩:=h2
  rw [hl,List.take_length,<- z2e] at h3
  have:=q H2 h2
  rw [h3] at this
  exact this
abbrev zm2:List Str:=["one","other"]
theorem zjp:FnScope zm2 ["one","other"] (defScope z6d):=⟨rfl,rfl,rfl,by decide +kernel,rfl,by decide +kernel,by decide +kernel⟩
theorem zi8 (B:BI mg) (G_q56:Got P w K mg base "joined" ["pairs"] (1) (z59 K Gr.tEnc)) (F:Fun K "together" "together" z6d f fd):FnOk P w K mg base CX0 (2) f fd ["one","other"] (z21 K):=by
 refine F.ok zjp (fun vs H Q E h=>?_) (fun cdv A outer s H vs Q E hr h=>?_)
 ·obtain ⟨v,u,g,k,rfl,_⟩:=h
  rfl
 obtain ⟨v,u,g,k,rfl,hv,hu,⟨C,go,ko⟩,gd,kd,gp,kp,q⟩:=h
 have hun2:=hunT hr
 refine ⟨_,pss_one (ps_ret (z00 G_q56 (hr.mono (by omega)) rfl (pa_cons (pe_callB (zao Gr.pEnc (by show A.units+3+195 < cLine; omega)) rfl B.sorted (by decide +kernel) (pa_cons (pe_op z1p (pv 0) (pv 1)) pa_nil)) pa_nil))),?_⟩
 obtain ⟨a,xs,rfl,hsa,hba⟩:=z0i hv
 obtain ⟨b,ys,rfl,hsb,hbb⟩:=z0i hu
 have xl:=hba.length
 have yl:=hbb.length
 have hok:∀ p ∈ g.ps++k.ps,z02 p.1.1/\p.1.2.Ok C/\p.1.2.deep<=62:=fun p hp=>by
  rcases List.mem_append.mp hp with h | h
  ·have h1:=(Gr.ok_iff.mp go).1 p h
   have h2:=g.mem_deep p h
   exact ⟨h1.1,h1.2.1,by omega⟩
  ·have h1:=(Gr.ok_iff.mp ko).1 p h
   have h2:=k.mem_deep p h
   exact ⟨h1.1,h1.2.1,by omega⟩
 refine ⟨_,rfl,_,rfl,a,b,xs,ys,rfl,rfl,hsa,hsb,by have:=z23 (n:=xs.length+ys.length) (by omega); omega,fun c H1 s1 hc=>?_⟩
 refine ⟨c,_,g.ps++k.ps,rfl,.inr hc,Bears.append (hba.sb s1 Gr.noList_pEnc) (hbb.sb s1 Gr.noList_pEnc),Gr.pEnc_all _,Gr.pEnc_sortable _,by rw [List.length_append]; omega,fun p hp=>?_,fun p zs hp hz=>?_⟩
 ·have:=Gr.pEnc_depth p
  have:=(hok p hp).2.2
  omega
 have s2:=SB.new (ps:=[]) hp (.lst zs)
 refine ⟨p,zs,srtE Gr.pEnc (g.ps++k.ps),rfl,SqL.of upd_same,hz.sb s2 Gr.noList_pEnc,?_,fun b hb=>?_,fun c2 ws H3 s3 hc2 hb3=>?_⟩
 ·rw [(z0r _).length_eq,List.length_append]; omega
 ·obtain ⟨h1,h2,h3⟩:=hok b ((z0r _).mem_iff.mp hb)
  exact Gr.wd_t h1 h2 (by omega)
 ·exact q _ _ ((s1.trans s2).trans s3) (z2n hc2 hb3)
abbrev zkt:List Str:=["grove","tree","many","left","other","count"]
theorem sc_q83:FnScope zkt ["grove","tree","many"] (defScope z6h):=⟨rfl,rfl,rfl,by decide +kernel,rfl,by decide +kernel,by decide +kernel⟩
theorem zh9 (B:BI mg) (F:Fun K "without" "without" z6h f fd):FnOk P w K mg base CX0 (1) f fd ["grove","tree","many"] (z5a K):=by
 refine F.ok sc_q83 (fun vs H Q E h=>?_) (fun cdv A outer s H vs Q E hr h=>?_)
 ·obtain ⟨v,u,g,t,m,rfl,_⟩:=h
  rfl
 obtain ⟨v,u,g,t,m,rfl,hv,hu,⟨C,go,to⟩,tn,gd,td,gl,q⟩:=h
 have hun2:=hunT hr
 refine ⟨_,pss_cons (ps_set (i:=3) sc_q83.nd rfl (.inl rfl) (pe_lst pa_nil))
  (pss_cons (ps_for PassesOwn.never rfl (pi_tup (pv 0)) (pg_tup rfl (pgs_cons (pg_name (i:=4) sc_q83.nd rfl (.inl rfl)) (pgs_cons (pg_name (i:=5) sc_q83.nd rfl (.inl rfl)) pgs_nil)))
   (pss_one (ps_if (pt_cmpR (z38 (by show A.units+3+195 < cLine; omega)) (pv 4) (pv 1) (nomark _)) (pss_one (ps_expr (pe_bm PySem.F.plainAttrs_list PySem.F.slot_list_append PySem.F.type_list_append mt_append (pv 3) (pa_cons (pe_tup (pa_cons (pv 4) (pa_cons (pv 5) pa_nil))) pa_nil)))) (pss_one (ps_if (pt_cmpR op_gt (pv 5) (pv 2) (nomark _)) (pss_one (ps_expr (pe_bm PySem.F.plainAttrs_list PySem.F.slot_list_append PySem.F.type_list_append mt_append (pv 3) (pa_cons (pe_tup (pa_cons (pv 4) (pa_cons (pe_op op_sub (pv 5) (pv 2)) pa_nil))) pa_nil)))) pss_nil)))))
  (pss_one (ps_ret (pe_callTy call_tuple_of rfl B.tuple boot_tuple (pa_cons (pv 3) pa_nil))))),?_⟩
 have szl:=sizeLine_eq
 obtain ⟨a,xs,rfl,hs,hb⟩:=z0i hv
 have xl:=hb.length
 refine ⟨by show 0<=sizeLine; decide,fun D nD=>?_⟩
 have t1:=SB.new (ps:=[]) nD (.lst [])
 have hD1:upd H D (.lst []) D=some (.lst []):=upd_same
 generalize upd H D (.lst [])=H1 at t1 hD1
 refine ⟨_,rfl,a,rfl,⟨xs,t1.sqT hs⟩,?_⟩
 refine for_it (walk_tup (xs:=xs)) (fun i σ H2=>∃ (us:List V) (o4 o5:Option V),σ=[some (.ref a),some u,some (.int m),some (.ref D),o4,o5]/\SB [D] H1 H2/\H2 D=some (.lst us)/\Bears K H2 Gr.pEnc us (Gr.woL t m (g.ps.take i))/\us.length<=i)
  ⟨[],none,none,rfl,SB.refl,hD1,.nil,Nat.le_refl _⟩ (fun i σ H2 hi h2=>by obtain ⟨_,_,_,_,s,_⟩:=h2; exact s.sqT (t1.sqT hs)) (fun i x σ H2 H' hi h2 y=>?_) (fun σ H2 h2=>?_)
 ·obtain ⟨us,o4,o5,rfl,s2,hD2,hb2,ul⟩:=h2
  obtain ⟨rfl,ey⟩:=y
  obtain ⟨p,ep,hpd⟩:=hb.get ey
  have pm:=List.mem_of_getElem? ep
  obtain ⟨n1,o1,_,_⟩:=Gr.ok_mem go pm
  have pd:=g.mem_deep p pm
  have s02:SB [] H H':=((t1.nil (ps:=[D])).trans s2).drop nD
  obtain ⟨ad,bd,ux,rfl,h1,h2,h3,h4⟩:=z0h hpd
  have h4':=z01 s02 _ _ (Gr.noList_tEnc _) h4
  have hst:Gr.woL t m (g.ps.take (i+1))=Gr.woL t m (g.ps.take i)++Gr.woL t m [p]:=by rw [List.take_add_one,ep,Gr.woL_append]; rfl
  refine ⟨ad,_,rfl,s02.sqT h1,rfl,_,_,rfl,_,_,rfl,rfl,?_⟩
  refine ⟨_,rfl,_,rfl,Gr.tEnc p.1,Gr.tEnc t,h4',z01 s02 _ _ (Gr.noList_tEnc _) hu,Gr.wd_t n1 o1 (by omega),Gr.wd_t tn to td,_,rfl,?_⟩
  rw [Gr.t_eqv]
  -- what is put behind
  have app:∀ c:Int,Gr.woL t m [p]=[(p.1,c)]->∀ (T:Addr),H' T=none->∃ us' o4' o5',[some (V.ref a),some u,some (.int m),some (.ref D),some (.ref bd),some (.int p.2)]=[some (.ref a),some u,some (.int m),some (.ref D),o4',o5']/\SB [D] H1 (upd (upd H' T (.tup [.ref bd,.int c])) D (.lst (us++[.ref T])))/\upd (upd H' T (.tup [.ref bd,.int c])) D (.lst (us++[.ref T])) D=some (.lst us')/\Bears K (upd (upd H' T (.tup [.ref bd,.int c])) D (.lst (us++[.ref T]))) Gr.pEnc us' (Gr.woL t m (g.ps.take (i+1)))/\us'.length<=i+1:=fun c e T nT=>by
   have t3:=SB.new (ps:=[D]) nT (.tup [.ref bd,.int c])
   have hD3:upd H' T (.tup [.ref bd,.int c]) D=some (.lst us):=by rw [upd_ne (ne_of_none hD2 nT)]; exact hD2
   have t4:=SB.set (ps:=[D]) hD3 (by simp) (.lst (us++[.ref T]))
   refine ⟨us++[.ref T],_,_,rfl,(s2.trans t3).trans t4,upd_same,?_,by rw [List.length_append]; show us.length+1<=_; omega⟩
   rw [hst,e]
   exact ((hb2.sb t3 Gr.noList_pEnc).sb t4 Gr.noList_pEnc).append (.cons (z1g (t4.sqT (SqT.of upd_same)) (z01 (t3.trans t4) _ _ (Gr.noList_tEnc _) h4')) .nil)
  by_cases hz:p.1=t
  ·rw [show (!decide (p.1=t))=false by simp [hz]]
   refine iteF ⟨_,rfl,_,rfl,_,_,rfl,rfl,_,rfl,?_⟩
   by_cases hm:m < p.2
   ·rw [decide_eq_true hm]
    refine iteT ⟨_,rfl,.inl ⟨rfl,_,SqL.of hD2⟩,_,rfl,_,rfl,_,rfl,_,_,rfl,rfl,by show 2<=sizeLine; decide,fun T nT=>?_⟩
    have hD3:upd H' T (.tup [.ref bd,.int (p.2-m)]) D=some (.lst us):=by rw [upd_ne (ne_of_none hD2 nT)]; exact hD2
    exact ⟨D,_,_,rfl,rfl,hD3,by omega,app (p.2-m) (by rw [Gr.woL,if_neg (by simpa using hz),if_pos hm]; rfl) T nT⟩
   ·rw [decide_eq_false hm]
    refine iteF ⟨us,_,_,rfl,s2,hD2,?_,by omega⟩
    rw [hst,show Gr.woL t m [p]=[] by rw [Gr.woL,if_neg (by simpa using hz),if_neg hm]; rfl,List.append_nil]
    exact hb2
  ·rw [show (!decide (p.1=t))=true by simp [hz]]
   refine iteT ⟨_,rfl,.inl ⟨rfl,_,SqL.of hD2⟩,_,rfl,_,rfl,by show 2<=sizeLine; decide,fun T nT=>?_⟩
   have hD3:upd H' T (.tup [.ref bd,.int p.2]) D=some (.lst us):=by rw [upd_ne (ne_of_none hD2 nT)]; exact hD2
   exact ⟨D,_,_,rfl,rfl,hD3,by omega,app p.2 (by rw [Gr.woL,if_pos hz]; rfl) T nT⟩
 ·obtain ⟨us,o4,o5,rfl,s2,hD2,hb2,ul⟩:=h2
  rw [xl,List.take_length] at hb2
  refine ⟨_,rfl,D,us,rfl,.inl ⟨SqL.of hD2,fun T nT=>?_⟩⟩
  have t3:=SB.new (ps:=[]) nT (.tup us)
  have s02:SB [] H H2:=((t1.nil (ps:=[D])).trans s2).drop nD
  exact q _ _ (s02.trans t3) (z2n (SqT.of upd_same) (hb2.sb t3 Gr.noList_pEnc))
abbrev zfl:List Str:=["grove","many","tree","count"]
theorem sc_q80:FnScope zfl ["grove","many"] (defScope z4l):=⟨rfl,rfl,rfl,by decide +kernel,rfl,by decide +kernel,by decide +kernel⟩
theorem ziq (B:BI mg) (F:Fun K "times" "times" z4l f fd):FnOk P w K mg base CX0 (1) f fd ["grove","many"] (z88 K):=by
 refine F.ok sc_q80 (fun vs H Q E h=>?_) (fun cdv A outer s H vs Q E hr h=>?_)
 ·obtain ⟨v,g,m,rfl,_⟩:=h
  rfl
 obtain ⟨v,g,m,rfl,hv,gl,hp,m0,mb,q⟩:=h
 have hun2:=hunT hr
 refine ⟨_,pss_cons (ps_if (pt_cmpR op_eq (pv 1) pe_int (nomark _)) (pss_one (ps_ret (pe_tup pa_nil))) pss_nil)
  (pss_one (ps_ret (pe_callTy call_tuple_of rfl B.tuple boot_tuple (pa_cons (pe_lc (own:=[("tree",2),("count",3)]) (g:=(gTup K 2 (gCons (gName 2) (gCons (gName 3) gNil)))) (tt:=tYes) (te:=(tTup (tCons (tVar 2) (tCons (tOp (rI CMulW fun i j=>.int (i*j)) (tVar 3) (tVar 1)) tNil)))) rfl sc_q80.nd (pi_tup (pv 0)) (blkOk_by (N:=zfl) (sc:=defScope z4l) (by decide +kernel)) (fun _ _ _ _ _=>(pg_tup rfl (pgs_cons (pg_name (i:=2) sc_q80.nd rfl (.inl rfl)) (pgs_cons (pg_name (i:=3) sc_q80.nd rfl (.inl rfl)) pgs_nil)))) (fun _ _ _ _ _=>pts_nil) (fun _ _ _ _ _=>(pe_tup (pa_cons (pv 2) (pa_cons (pe_op op_mulW (pv 3) (pv 1)) pa_nil))))) pa_nil)))),?_⟩
 have szl:=sizeLine_eq
 obtain ⟨a,xs,rfl,hs,hb⟩:=z0i hv
 have xl:=hb.length
 refine ⟨_,rfl,rfl,_,rfl,?_⟩
 by_cases z:m=0
 ·subst z
  refine iteT ⟨by show 0<=sizeLine; decide,fun T nT=>?_⟩
  exact q _ _ (SB.new (ps:=[]) nT _) (zc4 (SqT.of upd_same))
 rw [show decide (V.int m=V.int 0)=false by simp [z]]
 refine iteF ⟨_,rfl,a,rfl,⟨xs,hs⟩,fun D nD=>?_⟩
 refine z66 (walk_tup (xs:=xs)) [] nD (by simp) (by omega) (fun i us H2=>Bears K H2 Gr.pEnc us (Gr.tmsL m (g.ps.take i))) .nil (fun H2 s2=>s2.sqT hs) (fun i us H2 H3 s3 h=>h.sb s3 Gr.noList_pEnc) (fun Pv i x Hq H2 us hi s2 y hR hu hD2 fin _=>?_) (fun us H2 s2 hD2 hR hul=>?_)
 ·obtain ⟨rfl,ey⟩:=y
  obtain ⟨p,ep,hpd⟩:=hb.get ey
  obtain ⟨p0,p1⟩:=hp p (List.mem_of_getElem? ep)
  obtain ⟨ad,bd,ux,rfl,h1,h2,h3,h4⟩:=z0h hpd
  refine ⟨ad,_,rfl,s2.sqT h1,rfl,_,_,rfl,_,_,rfl,rfl,rfl,?_⟩
  refine ⟨_,rfl,_,rfl,_,rfl,_,_,rfl,rfl,?_,by show 2<=sizeLine; decide,fun T nT=>?_⟩
  ·have e1:=zbj (x:=p.2) (a:=2000) (b:=2000) (Gr.natAbs_lt p0 p1) (Nat.le_refl _) (by decide)
   have e2:=zbj (x:=m) (a:=2000) (b:=2000) (Gr.natAbs_lt m0 mb) (Nat.le_refl _) (by decide)
   unfold CMulW
   omega
  have t3:=SB.new (ps:=[]) nT (.tup [.ref bd,.int (p.2*m)])
  refine fin _ _ t3 ?_
  have hst:Gr.tmsL m (g.ps.take (i+1))=Gr.tmsL m (g.ps.take i)++[(p.1,p.2*m)]:=by rw [List.take_add_one,ep,Gr.tmsL,Gr.tmsL,List.map_append]; rfl
  rw [hst]
  exact (hR.sb t3 Gr.noList_pEnc).append (.cons (z1g (SqT.of upd_same) (z01 (s2.trans t3) _ _ (Gr.noList_tEnc _) h4)) .nil)
 ·rw [xl,List.take_length] at hR
  refine ⟨D,us,rfl,.inl ⟨SqL.of hD2,fun T nT=>?_⟩⟩
  have t3:=SB.new (ps:=[]) nT (.tup us)
  refine q _ _ (s2.trans t3) ?_
  rw [Gr.tmsG,if_neg z]
  exact z2n (SqT.of upd_same) (hR.sb t3 Gr.noList_pEnc)
theorem sc_q67:FnScope ["grove","found","pair"] ["grove"] (defScope z6c):=⟨rfl,rfl,rfl,by decide +kernel,rfl,by decide +kernel,by decide +kernel⟩
theorem zjw {n:Nat} (G:Got P w K mg base "pairs_within" ["grove"] n (z17 K n)) (F:Fun K "pairs_within" "pairs_within" z6c f fd):FnOk P w K mg base CX0 (n+1) f fd ["grove"] (z17 K (n+1)):=by
 refine F.ok sc_q67 (fun vs H Q E h=>?_) (fun cdv A outer s H vs Q E hr h=>?_)
 ·obtain ⟨v,g,rfl,_⟩:=h
  rfl
 obtain ⟨v,g,rfl,hg,hd,hp,q⟩:=h
 refine ⟨_,pss_cons (ps_set (i:=1) sc_q67.nd rfl (.inl rfl) (pe_lst pa_nil))
  (pss_cons (ps_for PassesOwn.never rfl (pi_tup (pv 0)) (pg_name (i:=2) sc_q67.nd rfl (.inl rfl))
   (pss_cons (ps_expr (pe_bm PySem.F.plainAttrs_list PySem.F.slot_list_append PySem.F.type_list_append mt_append (pv 1) (pa_cons (pv 2) pa_nil)))
   (pss_one (ps_expr (pe_bm PySem.F.plainAttrs_list PySem.F.slot_list_extend PySem.F.type_list_extend mt_extend (pv 1) (pa_cons (z00 G hr rfl (pa_cons (pe_ix ix_tup (pe_ix ix_tup (pv 2) pe_int (fun _ _=>rfl)) pe_int (fun _ _=>rfl)) pa_nil)) pa_nil))))))
  (pss_one (ps_ret (pv 1)))),?_⟩
 obtain ⟨a,xs,rfl,hs,hb⟩:=z0i hg
 have bl:=hb.length
 have wl:=g.within_length
 refine ⟨(by show 0<=sizeLine; decide),fun D hD=>?_⟩
 refine ⟨_,rfl,a,rfl,⟨xs,(SB.new (ps:=[]) hD _).sqT hs⟩,?_⟩
 refine for_it (walk_tup (xs:=xs)) (fun i σ H2=>SB [D] H H2/\∃ us o2,σ=[some (.ref a),some (.ref D),o2]/\H2 D=some (.lst us)/\Bears K H2 Gr.pEnc us ((g.ps.take i).flatMap fun p=>p::p.1.2.within)) ⟨SB.new hD _,[],none,rfl,upd_same,.nil⟩ (fun i σ H2 hi h2=>(h2.1.drop hD).sqT hs) (fun i x σ H2 H' hi h2 y=>?_) (fun σ H2 h2=>?_)
 ·obtain ⟨s2,us,o2,rfl,hD2,hb2⟩:=h2
  obtain ⟨rfl,ex⟩:=y
  obtain ⟨p,ep,hpd⟩:=hb.get ex
  have pm:=List.mem_of_getElem? ep
  obtain ⟨ad,td,ux,rfl,hs2,hs3,hga,_⟩:=z0h hpd
  have s2':=s2.drop hD
  have ul:=hb2.length
  have hsplit:(g.ps.take (i+1)).flatMap (fun p=>p::p.1.2.within)=(g.ps.take i).flatMap (fun p=>p::p.1.2.within)++(p::p.1.2.within):=by rw [List.take_add_one,ep]; simp
  have hle:((g.ps.take i).flatMap (fun p=>p::p.1.2.within)).length+(p.1.2.within.length+1)<=200000:=by
   have h1:g.within=(g.ps.take (i+1)).flatMap (fun p=>p::p.1.2.within)++(g.ps.drop (i+1)).flatMap (fun p=>p::p.1.2.within):=by rw [Gr.within_ps,<- List.flatMap_append,List.take_append_drop]
   have h2:=congrArg List.length h1
   rw [hsplit,List.length_append,List.length_append,List.length_cons,wl] at h2
   omega
  refine ⟨_,rfl,.inl ⟨rfl,_,SqL.of hD2⟩,_,rfl,D,us,_,rfl,rfl,hD2,z23 (by omega),?_⟩
  have t3:=SB.set (ps:=[D]) hD2 (by simp) (.lst (us++[.ref ad]))
  have hD3:(upd H' D (.lst (us++[.ref ad]))) D=some (.lst (us++[.ref ad])):=upd_same
  have hb3:=Bears.append (hb2.sb t3 Gr.noList_pEnc) (.cons (z01 (s2.trans t3) _ _ (Gr.noList_pEnc _) hpd) .nil)
  have s3:=s2.trans t3
  have s3':=s3.drop hD
  generalize hH3:upd H' D (.lst (us++[.ref ad]))=H3 at t3 hD3 hb3 s3 s3'
  have pd:=g.mem_deep p pm
  have pp:=g.mem_parts p pm
  refine ⟨_,rfl,.inl ⟨rfl,_,SqL.of hD3⟩,_,rfl,ad,_,_,_,rfl,rfl,s3'.sqT hs2,atI_nat (j:=0) rfl,td,_,_,_,rfl,rfl,s3'.sqT hs3,atI_nat (j:=1) rfl,ux,p.1.2,rfl,hga.sb s3',by omega,by omega,fun D2 vs2 H4 s4 hDn hD4 hb4=>?_⟩
  have hD4':=s4.keep _ _ hD3 nmn
  have vl:=hb4.length
  refine ⟨D,D2,_,_,rfl,rfl,hD4',hD4,?_,?_⟩
  ·rw [List.length_append,List.length_singleton]
   have:1000000<=sizeLine:=by decide
   omega
  have t5:=SB.set (ps:=[D]) hD4' (by simp) (.lst (us++[.ref ad]++vs2))
  refine ⟨(s3.trans s4.nil).trans t5,_,_,rfl,upd_same,?_⟩
  rw [hsplit,show ((g.ps.take i).flatMap (fun p=>p::p.1.2.within)++(p::p.1.2.within))=(g.ps.take i).flatMap (fun p=>p::p.1.2.within)++[p]++p.1.2.within by simp]
  exact Bears.append ((hb3.sb s4 Gr.noList_pEnc).sb t5 Gr.noList_pEnc) (hb4.sb t5 Gr.noList_pEnc)
 ·obtain ⟨s2,us,o2,rfl,hD2,hb2⟩:=h2
  rw [bl,List.take_length,<- Gr.within_ps] at hb2
  exact ⟨_,rfl,q D us H2 (s2.drop hD) hD hD2 hb2⟩
abbrev zey:List Str:=["grove","tree","many"]
theorem sc_q57:FnScope zey ["grove"] (defScope z3i):=⟨rfl,rfl,rfl,by decide +kernel,rfl,by decide +kernel,by decide +kernel⟩
theorem ziu (B:BI mg) (G_q67:Got P w K mg base "pairs_within" ["grove"] (70) (z17 K 70)) (F:Fun K "kinds_within" "kinds_within" z3i f fd):FnOk P w K mg base CX0 (71) f fd ["grove"] (z4j K):=by
 refine F.ok sc_q57 (fun vs H Q E h=>?_) (fun cdv A outer s H vs Q E hr h=>?_)
 ·obtain ⟨v,g,ns,rfl,_⟩:=h
  rfl
 obtain ⟨v,g,ns,rfl,hv,hd,hp,hk,hn,q⟩:=h
 have hun2:=hunT hr
 refine ⟨_,pss_one (ps_ret (pe_callB (z6s rfl) rfl B.sorted (by decide +kernel) (pa_cons (zc7 (own:=[("tree",1),("many",2)]) (g:=(gTup K 2 (gCons (gName 1) (gCons (gName 2) gNil)))) (tt:=tYes) (te:=(tOp (rIxT K) (tVar 1) (tC (.int 0)))) rfl sc_q57.nd (pi_list (z00 G_q67 (hr.mono (by omega)) rfl (pa_cons (pv 0) pa_nil))) (blkOk_by (N:=zey) (sc:=defScope z3i) (by decide +kernel)) (fun _ _ _ _ _=>(pg_tup rfl (pgs_cons (pg_name (i:=1) sc_q57.nd rfl (.inl rfl)) (pgs_cons (pg_name (i:=2) sc_q57.nd rfl (.inl rfl)) pgs_nil)))) (fun _ _ _ _ _=>pts_nil) (fun _ _ _ _ _=>(pe_ix ix_tup (pv 1) pe_int (fun _ _=>rfl)))) pa_nil))),?_⟩
 have scb:3001 < scanBound:=by decide +kernel
 have wl:=g.within_length
 refine ⟨_,rfl,v,g,rfl,hv,by omega,by omega,fun ll us H1 s1 nll hll hbl=>?_⟩
 have ul:=hbl.length
 refine ⟨ll,rfl,⟨_,SqL.of hll⟩,fun D nD=>?_⟩
 refine zc6 (walk_list (xs:=us)) nD (by omega) (fun i ss H2=>ss.Nodup/\∀ x,x ∈ ss ↔ x ∈ (g.within.take i).map fun p:Tr × Int=>p.1.1) ⟨List.nodup_nil,by simp⟩ (fun H2 s2=>s2.sqL nmn (SqL.of hll)) (fun _ _ _ _ _ h=>h) (fun Pv i x Hq H2 ss hi s2 y hR hl fin _=>?_) (fun ss H2 s2 hD2 hR hl=>?_)
 ·obtain ⟨rfl,ey⟩:=y
  obtain ⟨p,ep,hpd⟩:=hbl.get ey
  obtain ⟨ad,td,ux,rfl,hs2,hs3,hga,_⟩:=z0h hpd
  refine ⟨ad,_,rfl,s2.sqT hs2,rfl,_,_,rfl,_,_,rfl,rfl,rfl,?_⟩
  refine ⟨_,rfl,td,_,_,_,rfl,rfl,s2.sqT hs3,atI_nat (j:=0) rfl,fin p.1.1 _ SB.refl ⟨z82 hR.1,fun x=>?_⟩⟩
  rw [z9n,hR.2,List.take_add_one,ep,List.map_append,List.mem_append]
  simp [or_comm]
 ·rw [ul,List.take_length] at hR
  have sl:ss.length<=60:=by
   have:=hR.1.length_le_of_subset (l₂:=ns) fun x hx=>by
    obtain ⟨p,hp,e⟩:=List.mem_map.mp ((hR.2 x).mp hx)
    rw [<- e]; exact hk p hp
   omega
  refine ⟨D,ss,rfl,hD2,by omega,fun ss' p pm srt np=>?_⟩
  have t3:=SB.new (ps:=[]) np (.lst (ss'.map V.str))
  exact q p ss' _ ((s1.trans s2).trans t3) ((s1.trans s2).dom _ np) upd_same (.perm pm srt hR.1 hR.2) (by rw [pm.length_eq]; omega)
theorem zhv:FnScope ["grove"] ["grove"] (defScope z6p):=⟨rfl,rfl,rfl,by decide +kernel,rfl,by decide +kernel,by decide +kernel⟩
theorem zk8 {n:Nat} (B:BI mg) (G:Got P w K mg base "pairs_within" ["grove"] n (z17 K n)) (F:Fun K "parts_of" "parts_of" z6p f fd):FnOk P w K mg base CX0 (n+1) f fd ["grove"] (z4u K n):=by
 refine F.ok zhv (fun vs H Q E h=>?_) (fun cdv A outer s H vs Q E hr h=>?_)
 ·obtain ⟨v,g,rfl,_⟩:=h
  rfl
 obtain ⟨v,g,rfl,hg,hd,hp,q⟩:=h
 refine ⟨_,pss_one (ps_ret (pe_callB call_len_seq rfl B.len PySem.boot_len (pa_cons (z00 G hr rfl (pa_cons (pv 0) pa_nil)) pa_nil))),?_⟩
 refine ⟨_,rfl,v,g,rfl,hg,hd,hp,fun D us H2 s2 _ hD hb=>?_⟩
 refine ⟨D,us,rfl,.inl (SqL.of hD),?_⟩
 rw [hb.length,g.within_length]
 exact q _ s2
abbrev z9k:List Str:=["grove","tree","many"]
theorem sc_q40:FnScope z9k ["grove"] (defScope z3h):=⟨rfl,rfl,rfl,by decide +kernel,rfl,by decide +kernel,by decide +kernel⟩
theorem zjg {n:Nat} (B:BI mg) (G:Got P w K mg base "deep_of" ["grove"] n (z1m K n)) (F:Fun K "deep_of" "deep_of" z3h f fd):FnOk P w K mg base CX0 (n+1) f fd ["grove"] (z1m K (n+1)):=by
 refine F.ok sc_q40 (fun vs H Q E h=>?_) (fun cdv A outer s H vs Q E hr h=>?_)
 ·obtain ⟨v,g,rfl,_⟩:=h
  rfl
 obtain ⟨v,g,rfl,hg,hd,hp,q⟩:=h
 refine ⟨_,pss_cons (ps_if (pt_not (pt_truth (pv 0) (by intro _; rfl))) (pss_one (ps_ret pe_int)) pss_nil) (pss_one (ps_ret (pe_op op_add pe_int (pe_callB (cr_max rfl) rfl B.max boot_max (pa_cons
  (pe_lc (own:=[("tree",1),("many",2)]) (g:=zlu K) (tt:=tYes) (te:=(tCall (z1m K n) [] E0 (tCons (tOp (rIxT K) (tVar 1) (tC (.int 1))) tNil))) rfl sc_q40.nd
   (pi_tup (pv 0))
   (blkOk_by (N:=z9k) (sc:=defScope z3h) (by decide +kernel))
   (fun _ _ _ _ _=>pg_tup rfl (pgs_cons (pg_name (i:=1) sc_q40.nd rfl (.inl rfl)) (pgs_cons (pg_name (i:=2) sc_q40.nd rfl (.inl rfl)) pgs_nil)))
   (fun _ _ _ _ _=>pts_nil)
   (fun _ _ _ _ _=>(z00 G hr rfl (pa_cons (pe_ix ix_tup (pv 1) pe_int (fun _ _=>rfl)) pa_nil)))) pa_nil))))),?_⟩
 obtain ⟨a,xs,rfl,hs,hb⟩:=z0i hg
 have bl:=hb.length
 refine ⟨_,rfl,_,.inr (.inl ⟨xs,hs,rfl⟩),?_⟩
 cases ex:xs with
 | nil =>
  refine iteT ?_
  have e0:g.deep=0:=by
   cases g with
   | nil=>rfl
   | cons k g m r=>rw [ex] at bl; simp [Gr.ps] at bl
  have:=q H SB.refl
  rw [e0] at this
  exact this
 | cons x0 xr =>
 refine iteF ?_
 refine ⟨_,rfl,a,rfl,⟨xs,hs⟩,fun D hD=>?_⟩
 have hz:=g.len_parts
 refine lc_it (walk_tup (xs:=xs)) (fun i H2=>SB [D] H H2/\H2 D=some (.lst (((g.ps.take i).map fun p=>(p.1.2.deep:Int)).map V.int))) ⟨SB.new hD _,upd_same⟩ (fun i H2 hi h2=>(h2.1.drop hD).sqT hs) (fun i x H2 H' hi h2 y=>?_) (fun H2 h2=>?_)
 ·obtain ⟨h2,h3⟩:=h2
  obtain ⟨rfl,ex⟩:=y
  obtain ⟨p,ep,hpd⟩:=hb.get ex
  have pm:=List.mem_of_getElem? ep
  obtain ⟨ad,td,ux,rfl,hs2,hs3,hga,_⟩:=z0h hpd
  have h4:=h2.drop hD
  have m1:=g.mem_deep p pm
  have m2:=g.mem_parts p pm
  refine ⟨ad,_,rfl,h4.sqT hs2,rfl,_,_,rfl,_,_,rfl,rfl,rfl,?_⟩
  refine ⟨_,rfl,td,_,_,_,rfl,rfl,h4.sqT hs3,atI_nat (j:=1) rfl,ux,p.1.2,rfl,hga.sb h4,by omega,by omega,fun H5 h5=>?_⟩
  have h6:=h5.keep _ _ h3 nmn
  refine ⟨_,h6,?_,?_⟩
  ·rw [List.length_map,List.length_map,List.length_take]
   exact z23 (by omega)
  ·refine ⟨(h2.trans h5.nil).trans (SB.set h6 (by simp) _),?_⟩
   rw [upd_same,List.take_add_one,ep]
   simp
 ·obtain ⟨h2,h3⟩:=h2
  rw [bl,List.take_length] at h3
  refine ⟨D,_,rfl,SqL.of h3,?_,fun m hm hy=>?_⟩
  ·rw [List.length_map,<- bl,ex]; simp
  refine ⟨_,_,rfl,rfl,?_⟩
  show Q (.int (1+m)) H2
  rw [Gr.deep_max g m hm hy]
  exact q _ (h2.drop hD)
abbrev zl6:List Str:=["book","name"]
theorem zjf:FnScope zl6 ["book","name"] (defScope z6g):=⟨rfl,rfl,rfl,by decide +kernel,rfl,by decide +kernel,by decide +kernel⟩
theorem ziy {C_NO_GROVES C_Book C_NoKind:Addr} (B:BI mg) (V_NO_GROVES:mg "NO_GROVES"=some (.ref C_NO_GROVES)) (W_NO_GROVES:∀ H,Dp K H (.ref C_NO_GROVES) (Ru.enc (.nil,.nil))) (G_q2:z12 P w K mg base C_Book "rules" ["self","name"] (4) (z3z K C_Book C_NoKind)) (F:Fun K "rules_from_nought" "rules_from_nought" z6g f fd):FnOk P w K mg base (L2.CX P w) (5) f fd ["book","name"] (z47 K C_Book C_NoKind):=by
 refine F.okX zjf (fun vs H Q E h=>?_) (fun cdv A outer s H vs Q E hr h=>?_)
 ·obtain ⟨v,b,n,rfl,_⟩:=h
  rfl
 obtain ⟨v,b,n,rfl,hb,hl,hr4,qk,qE⟩:=h
 have hun2:=hunT hr
 refine ⟨_,pss_one (ps_ret (pe_op op_cat (pe_lst (pa_cons (pe_glob (v:=.ref C_NO_GROVES) rfl V_NO_GROVES rfl) pa_nil)) (z9j G_q2 (hr.mono (by omega)) (takes_of rfl rfl rfl rfl) (pv 0) (pa_cons (pv 1) pa_nil)))),?_⟩
 have szl:=sizeLine_eq
 obtain ⟨va,vdx,vd1,vd2,rfl,hva⟩:=hb.at
 refine ⟨by show 1<=sizeLine; decide,fun L hL=>?_⟩
 have t1:=SB.new (ps:=[]) hL (.lst [.ref C_NO_GROVES])
 have hL1:upd H L (.lst [.ref C_NO_GROVES]) L=some (.lst [.ref C_NO_GROVES]):=upd_same
 generalize upd H L (.lst [.ref C_NO_GROVES])=H1 at t1 hL1
 refine ⟨_,rfl,va,vdx,_,rfl,t1.keep _ _ hva nmn,rfl,_,rfl,_,b,n,rfl,hb.sb0 t1,hl,hr4,fun k eg ll us H2 s2 nll hll hbl=>?_,fun z d H' s' nd hd=>qE z d H' (t1.trans s') (t1.dom d nd) hd⟩
 have k4:=hr4 k (Bk.get_some eg).1
 have ul:=hbl.length
 refine ⟨L,ll,_,_,rfl,rfl,s2.keep _ _ hL1 nmn,hll,by show 1+_<=sizeLine; omega,fun M hM=>?_⟩
 have t3:=SB.new (ps:=[]) hM (.lst ([.ref C_NO_GROVES]++us))
 have s3:=t1.trans s2
 exact qk k eg M _ _ (s3.trans t3) (s3.dom _ hM) upd_same (.cons (W_NO_GROVES _) (hbl.sb t3 Ru.noList_enc))
abbrev zlb:List Str:=["book","name"]
theorem zjl:FnScope zlb ["book","name"] (defScope z6q):=⟨rfl,rfl,rfl,by decide +kernel,rfl,by decide +kernel,by decide +kernel⟩
theorem zk4 {C_NoKind C_Book:Addr} (B:BI mg) (O_NoKind:OwnI P w K mg base "NoKind" C_NoKind 1) (G_q1:GotM P w K mg base C_Book "names" ["self"] (1) (z2q K C_Book)) (F:Fun K "check_kind" "check_kind" z6q f fd):FnOk P w K mg base (L2.CX P w) (3) f fd ["book","name"] (z2l K C_Book C_NoKind):=by
 refine F.okX zjl (fun vs H Q E h=>?_) (fun cdv A outer s H vs Q E hr h=>?_)
 ·obtain ⟨v,b,n,rfl,_⟩:=h
  rfl
 obtain ⟨v,b,n,rfl,hb,hl,qk,qE⟩:=h
 have hun2:=hunT hr
 refine ⟨_,pss_one (ps_if (pt_cmpR op_notIn_seq (pv 1) (z13 G_q1 (hr.mono (by omega)) (pv 0)) (by rfl)) (pss_one (ps_raise rfl (takes_of rfl rfl rfl rfl) (z98 O_NoKind (hr.mono (by omega)) rfl (pv 1)))) pss_nil),?_⟩
 obtain ⟨a,dx,d1,d2,rfl,h1⟩:=hb.at
 refine ⟨_,rfl,_,rfl,a,dx,_,rfl,h1,rfl,?_⟩
 refine ⟨_,b,rfl,hb,hl,fun l H1 s1 hn hl1=>?_⟩
 refine ⟨l,_,rfl,.inl (SqL.of hl1),rfl,z1f _,_,rfl,?_⟩
 rw [z1s,Bk.get_isSome]
 cases e:b.get n with
 | some k=>exact qk k e H1 s1
 | none=>exact ⟨_,rfl,fun d hd=>qE e d _ (s1.trans (SB.new hd _)) (s1.dom d hd) upd_same⟩
abbrev zlp:List Str:=["book","grove","kind"]
theorem sc_q37:FnScope zlp ["book","grove"] (defScope z5r):=⟨rfl,rfl,rfl,by decide +kernel,rfl,by decide +kernel,by decide +kernel⟩
theorem zhg {C_Book C_NoKind:Addr} (B:BI mg) (G_q57:Got P w K mg base "kinds_within" ["grove"] (71) (z4j K)) (G_q36:GotX P w K mg base "check_kind" ["book","name"] (3) (z2l K C_Book C_NoKind)) (F:Fun K "check_kinds" "check_kinds" z5r f fd):FnOk P w K mg base (L2.CX P w) (72) f fd ["book","grove"] (z1k K C_Book):=by
 refine F.okX sc_q37 (fun vs H Q E h=>?_) (fun cdv A outer s H vs Q E hr h=>?_)
 ·obtain ⟨v,w,b,g,rfl,_⟩:=h
  rfl
 obtain ⟨v,w,b,g,rfl,hv,hg,hl,hd,hp,hk,q⟩:=h
 have hun2:=hunT hr
 refine ⟨_,pss_one (ps_for (passes_of rfl) rfl (pi_list (z00 G_q57 (hr.mono (by omega)) rfl (pa_cons (pv 1) pa_nil))) (pg_name (i:=2) sc_q37.nd rfl (.inl rfl))
   (pss_one (ps_expr (z0p G_q36 (hr.mono (by omega)) rfl (takes_of rfl rfl rfl rfl) (pa_cons (pv 0) (pa_cons (pv 2) pa_nil)))))),?_⟩
 refine ⟨_,rfl,w,g,b.names,rfl,hg,hd,hp,hk,by rw [List.length_map]; exact hl,fun l ss H1 s1 nl hls so sl=>?_⟩
 refine ⟨l,rfl,⟨_,SqL.of hls⟩,?_⟩
 refine for_it (walk_list (xs:=ss.map V.str)) (fun i σ H2=>SB [] H1 H2/\∃ o2,σ=[some v,some w,o2]) ⟨SB.refl,none,rfl⟩ (fun i σ H2 hi h2=>h2.1.sqL nmn (SqL.of hls)) (fun i x σ Hq H2 hi h2 y=>?_) (fun σ H2 h2=>?_)
 ·obtain ⟨s2,o2,rfl⟩:=h2
  obtain ⟨rfl,ey⟩:=y
  rw [List.getElem?_map] at ey
  obtain ⟨k,ek,rfl⟩:=Option.map_eq_some_iff.mp ey
  obtain ⟨p,hp2,e⟩:=List.mem_map.mp ((so.mem k).mp (List.mem_of_getElem? ek))
  obtain ⟨kd,eg⟩:=Bk.get_of (e ▸ hk p hp2)
  refine ⟨_,rfl,_,rfl,v,b,k,rfl,hv.sb0 (s1.trans s2),by omega,fun _ _ H3 s3=>⟨s2.trans s3,_,rfl⟩,fun z=>by rw [eg] at z; cases z⟩
 ·obtain ⟨s2,o2,rfl⟩:=h2
  exact q _ (s1.trans s2)
abbrev zb9:List Str:=["things","thing","names","rule"]
theorem sc_q31:FnScope zb9 ["things"] (defScope z2y):=⟨rfl,rfl,rfl,by decide +kernel,rfl,by decide +kernel,by decide +kernel⟩
theorem zjr (B:BI mg) (L_MOST_KINDS:∃ t,mg "MOST_KINDS"=some (.int (8) t)) (G_q47:Got P w K mg base "is_kind" ["thing"] (86) (z7c K)) (G_q53:Got P w K mg base "is_rule_of" ["rule","names"] (71) (z26 K)) (F:Fun K "are_kinds" "are_kinds" z2y f fd):FnOk P w K mg base CX0 (87) f fd ["things"] (z4i K):=by
 refine F.ok sc_q31 (fun vs H Q E h=>?_) (fun cdv A outer s H vs Q E hr h=>?_)
 ·obtain ⟨l,xs,ts,rfl,_⟩:=h
  rfl
 obtain ⟨l,xs,ts,rfl,hs,ha,hf,hl,q⟩:=h
 obtain ⟨tk_MOST_KINDS,h_MOST_KINDS⟩:=L_MOST_KINDS
 have hun2:=hunT hr
 refine ⟨_,pss_cons (ps_if (pt_not (pt_chain op_le op_le pe_int (pe_callB call_len_seq rfl B.len PySem.boot_len (pa_cons (pv 0) pa_nil)) (pe_glob (v:=.int (8)) rfl h_MOST_KINDS ⟨_,rfl⟩))) (pss_one (ps_ret pe_bl)) pss_nil)
  (pss_cons (ps_for PassesOwn.never rfl (pi_list (pv 0)) (pg_name (i:=1) sc_q31.nd rfl (.inl rfl))
   (pss_one (ps_if (pt_not (pt_val (z00 G_q47 (hr.mono (by omega)) rfl (pa_cons (pv 1) pa_nil)))) (pss_one (ps_ret pe_bl)) pss_nil)))
  (pss_cons (ps_set (i:=2) sc_q31.nd rfl (.inr rfl) (pe_lc (own:=[("thing",1)]) (g:=(gName 1)) (tt:=tYes) (te:=(tOp (rIxT K) (tVar 1) (tC (.int 0)))) rfl sc_q31.nd (pi_list (pv 0)) (blkOk_by (N:=zb9) (sc:=defScope z2y) (by decide +kernel)) (fun _ _ _ _ _=>(pg_name (i:=1) sc_q31.nd rfl (.inl rfl))) (fun _ _ _ _ _=>pts_nil) (fun _ _ _ _ _=>(pe_ix ix_tup (pv 1) pe_int (fun _ _=>rfl)))))
  (pss_cons (ps_if (pt_cmpR op_ne (zar rfl B rfl rfl (pv 2)) (pe_callB call_len_seq rfl B.len PySem.boot_len (pa_cons (pv 2) pa_nil)) (nomark _)) (pss_one (ps_ret pe_bl)) pss_nil)
  (pss_one (ps_ret (pe_callB (cr_all rfl) rfl B.all boot_all (pa_cons (pe_lc2 (own:=[("thing",1),("rule",3)]) (vs1:=[3]) (wi1:=(iList K (tOp (rIxT K) (tVar 1) (tC (.int 2))))) (g:=(gName 1)) (g1:=(gName 3)) (tt:=tYes) (tt1:=tYes) (te:=(tCall (z26 K) [] E0 (tCons (tVar 3) (tCons (tVar 2) tNil)))) rfl sc_q31.nd (pi_list (pv 0)) (blkOk_by (N:=zb9) (sc:=defScope z2y) (by decide +kernel)) (by simp) (fun _ _ _ _ _=>(pg_name (i:=1) sc_q31.nd rfl (.inl rfl))) (fun _ _ _ _ _=>pts_nil) (fun _ _ _ _ _=>(pi_list (pe_ix ix_tup (pv 1) pe_int (fun _ _=>rfl)))) (fun _ _ _ _ _=>(pg_name (i:=3) sc_q31.nd rfl (.inl rfl))) (fun _ _ _ _ _=>pts_nil) (fun _ _ _ _ _=>(z00 G_q53 (hr.mono (by omega)) rfl (pa_cons (pv 3) (pa_cons (pv 2) pa_nil))))) pa_nil))))))),?_⟩
 have no:¬ KTBk ts->∀ H',SB [] H H'->Q (.bl false) H':=fun e H' s'=>q false H' s' ⟨(fun z=>nomatch z),fun z=>absurd z e⟩
 have xlen:=ha.length
 have szl:=sizeLine_eq
 refine ⟨_,rfl,l,xs,rfl,.inl hs,_,_,rfl,rfl,_,rfl,?_⟩
 refine ite2 (fun c=>?_) (fun c=>?_)
 ·have c1:=of_decide_eq_true c
  refine ⟨_,_,rfl,rfl,_,rfl,?_⟩
  cases c8:decide (((xs.length:Nat):Int)<=8) with
  | false =>
   have c2:=of_decide_eq_false c8
   refine iteT (no ?_ _ SB.refl)
   rintro ⟨b,e,ok⟩
   have:=ok.len
   rw [e,List.length_map] at xlen
   omega
  | true =>
  refine iteF ?_
  have c2:=of_decide_eq_true c8
  refine ⟨_,rfl,l,rfl,⟨xs,hs⟩,?_⟩
  refine for_list (K:=K) (a:=l) (xs:=xs) (fun i σ H2=>SB [] H H2/\(∃ o,σ=[some (.ref l),o,none,none])/\∀ t ∈ ts.take i,KTKd t) ⟨SB.refl,⟨none,rfl⟩,by simp⟩ (fun i σ H2 hi h2=>h2.1.sqL nmn hs) (fun i x σ H2 hx h2=>?_) (fun σ H2 h2=>?_)
  ·obtain ⟨h2,⟨o,rfl⟩,h3⟩:=h2
   obtain ⟨t,et,ht⟩:=ha.get hx
   have mt:=List.mem_of_getElem? et
   refine ⟨_,rfl,x,t,rfl,zbh h2 ht,hf t mt,fun b H3 s3 hb=>?_⟩
   refine ⟨_,rfl,?_⟩
   cases b with
   | false =>
    refine iteT (no ?_ _ (h2.trans s3))
    rintro ⟨bk,e,ok⟩
    rw [e] at mt
    obtain ⟨k,hk,rfl⟩:=List.mem_map.mp mt
    obtain ⟨o1,o2,o3⟩:=ok.kd k hk
    exact nomatch hb.mpr ⟨k,rfl,o1,o2,fun r hr=>(o3 r hr).1⟩
   | true =>
    refine iteF ⟨h2.trans s3,⟨_,rfl⟩,fun t' ht'=>?_⟩
    rw [List.take_add_one,et,Option.toList_some] at ht'
    rcases List.mem_append.mp ht' with h | h
    ·exact h3 t' h
    ·rw [List.mem_singleton.mp h]; exact hb.mp rfl
  ·obtain ⟨h2,⟨o,rfl⟩,h3⟩:=h2
   rw [xlen,List.take_length] at h3
   obtain ⟨bk,et,hk⟩:=zcf h3
   subst et
   rw [List.length_map] at xlen
   have ha2:=(ha.sb h2).kd
   have hs2:=h2.sqL nmn hs
   refine ⟨_,rfl,l,rfl,⟨xs,hs2⟩,fun D hD=>?_⟩
   refine z11 (walk_list (xs:=xs)) hD (by omega) (fun i us _=>us=((Bk.names bk).take i).map V.str) rfl (fun H6 s6=>s6.sqL nmn hs2) (fun _ _ _ _ _ h=>h) (fun Pv i x H6 H' us hi s6 y hR hl6 fin _=>?_) (fun us H6 s6 hD6 hR _=>?_)
   ·obtain ⟨rfl,ex⟩:=y
    obtain ⟨k,ek,t,r,zs,rfl,g1,g2,g3,_⟩:=ha2.get ex
    refine ⟨rfl,_,rfl,t,_,_,_,rfl,rfl,s6.sqT g1,atI_nat (j:=0) rfl,fin _ _ SB.refl ?_⟩
    rw [hR,List.take_add_one,List.getElem?_map,ek,Option.map_some,Option.toList_some,List.map_append]; rfl
   ·rw [xlen,show (Bk.names bk).take bk.length=Bk.names bk by rw [List.take_of_length_le (by simp)]] at hR
    subst hR
    have s06:=h2.trans s6
    refine ⟨_,rfl,D,Bk.names bk,rfl,SqL.of hD6,by rw [List.length_map]; omega,?_⟩
    refine ⟨_,rfl,D,_,rfl,.inl (SqL.of hD6),rfl,_,rfl,?_⟩
    have hnd:=z8z (Bk.names bk)
    rw [show (List.map V.str (Bk.names bk)).length=(Bk.names bk).length from List.length_map ..]
    by_cases nd:(Bk.names bk).Nodup
    ·rw [hnd.mpr nd,show (!decide (V.int ((Bk.names bk).length:Nat)=V.int ((Bk.names bk).length:Nat)))=false by simp]
     refine iteF ?_
     have ha6:=ha2.sb s6 NoLst.nil
     have hs6:=s6.sqL nmn hs2
     refine ⟨_,rfl,l,rfl,⟨xs,hs6⟩,fun E1 hE1=>?_⟩
     have good:∀ r:Ru,(∃ k ∈ bk,r ∈ k.rs)->RuOk r:=fun r ⟨k,h1,h2⟩=>(hk k h1).2.2 r h2
     refine lcG (walk_list (xs:=xs)) (fun i H2=>SB [E1] H6 H2/\∃ bs:List Bool,H2 E1=some (.lst (bs.map V.bl))/\bs=((bk.take i).flatMap fun k=>k.rs.map fun r=>decide (∀ p ∈ Ru.within r,p.1.1 ∈ Bk.names bk))) ⟨SB.new hE1 _,[],upd_same,rfl⟩ (fun i H2 hi h2=>(h2.1.drop hE1).sqL nmn hs6) (fun i x H2 H' hi h2 y=>?_) (fun H2 h2=>?_)
     ·obtain ⟨s7,bs,hE7,hbs⟩:=h2
      obtain ⟨rfl,ex⟩:=y
      obtain ⟨k,ek,t,r,zs,rfl,g1,g2,g3,_⟩:=ha6.get ex
      have mk:=List.mem_of_getElem? ek
      have zl:=g3.length
      have r4:=(hk k mk).2.1
      have s7':=s7.drop hE1
      refine ⟨rfl,?_⟩
      refine ⟨_,rfl,t,_,_,_,rfl,rfl,s7'.sqT g1,atI_nat (j:=2) rfl,r,rfl,⟨zs,SqL.of (s7'.keep _ _ g2 nmn)⟩,?_⟩
      have hsplit:((bk.take (i+1)).flatMap fun k=>k.rs.map fun r=>decide (∀ p ∈ Ru.within r,p.1.1 ∈ Bk.names bk))=((bk.take i).flatMap fun k=>k.rs.map fun r=>decide (∀ p ∈ Ru.within r,p.1.1 ∈ Bk.names bk))++k.rs.map fun r=>decide (∀ p ∈ Ru.within r,p.1.1 ∈ Bk.names bk):=by rw [List.take_add_one,ek]; simp
      have hlen:bs.length<=4*i:=by
       rw [hbs]
       clear hbs hE7 s7 s7' hsplit ex ek
       induction i with
       | zero=>simp
       | succ i ih =>
        rw [List.take_add_one,List.flatMap_append,List.length_append]
        have:=ih (by omega)
        cases e:bk[i]? with
        | none=>simp only [Option.toList_none,List.flatMap_nil,List.length_nil]; omega
        | some k2 =>
         have:=(hk k2 (List.mem_of_getElem? e)).2.1
         simp only [Option.toList_some,List.flatMap_cons,List.flatMap_nil,List.append_nil,List.length_map]; omega
      refine lcG (walk_list (xs:=zs)) (fun j H3=>SB [E1] H6 H3/\∃ bs2:List Bool,H3 E1=some (.lst (bs2.map V.bl))/\bs2=bs++((k.rs.take j).map fun r=>decide (∀ p ∈ Ru.within r,p.1.1 ∈ Bk.names bk))) ⟨s7,bs,hE7,by simp⟩ (fun j H3 hj h3=>(h3.1.drop hE1).sqL nmn (SqL.of g2)) (fun j x H3 H4 hj h3 y=>?_) (fun H3 h3=>?_)
      ·obtain ⟨s8,bs2,hE8,hbs2⟩:=h3
       obtain ⟨rfl,ex2⟩:=y
       obtain ⟨ru,er,hru⟩:=g3.get ex2
       have s8':=s8.drop hE1
       have mr:=List.mem_of_getElem? er
       refine ⟨rfl,?_⟩
       refine ⟨_,rfl,_,rfl,_,D,ru,Bk.names bk,rfl,z01 s8' _ _ (Ru.noList_enc _) hru,(hk k mk).2.2 ru mr,SqL.of (s8'.keep _ _ hD6 nmn),by rw [List.length_map]; omega,fun H9 s9=>?_⟩
       have hE9:=s9.keep _ _ hE8 nmn
       refine ⟨_,hE9,?_,(s8.trans s9.nil).trans (SB.set hE9 (by simp) _),bs2++[decide (∀ p ∈ Ru.within ru,p.1.1 ∈ Bk.names bk)],(by rw [upd_same,List.map_append]; rfl),?_⟩
       ·rw [List.length_map,hbs2,List.length_append,List.length_map,List.length_take]
        omega
       ·rw [hbs2,List.take_add_one,er,Option.toList_some,List.map_append,<- List.append_assoc]
        exact rfl
      ·obtain ⟨s8,bs2,hE8,hbs2⟩:=h3
       refine ⟨s8,bs2,hE8,?_⟩
       rw [hsplit,hbs2,hbs,zl,List.take_length]
     ·obtain ⟨s7,bs,hE7,hbs⟩:=h2
      rw [xlen,List.take_length] at hbs
      refine ⟨E1,bs,rfl,SqL.of hE7,q _ _ (s06.trans (s7.drop hE1)) ?_⟩
      rw [hbs]
      simp only [List.all_flatMap,List.all_map,List.all_eq_true,Function.comp,id_eq,decide_eq_true_eq]
      constructor
      ·intro h
       exact ⟨bk,rfl,by omega,by omega,nd,fun k mk=>⟨(hk k mk).1,(hk k mk).2.1,fun r mr=>⟨(hk k mk).2.2 r mr,h k mk r mr⟩⟩⟩
      ·rintro ⟨b2,e2,ok⟩ k mk r mr
       have e3:=z8i e2
       subst e3
       exact ((ok.kd k mk).2.2 r mr).2
    ·rw [show (!decide (V.int ((met (Bk.names bk) (Bk.names bk).length).length:Nat)=V.int ((Bk.names bk).length:Nat)))=true by
      rw [decide_eq_false (fun z=>by injection z with z; exact nd (hnd.mp (by omega)))]; rfl]
     refine iteT (no ?_ _ s06)
     rintro ⟨b2,e2,ok⟩
     have e3:=z8i e2
     subst e3
     exact nd ok.nd
 ·have c1:=of_decide_eq_false (Bool.eq_false_iff.mpr c)
  refine ⟨_,rfl,?_⟩
  refine iteT (no ?_ _ SB.refl)
  rintro ⟨b,e,ok⟩
  have:=ok.pos
  rw [e,List.length_map] at xlen
  omega
abbrev zee:List Str:=["thing","name","spreading","rows","row"]
theorem sc_q47:FnScope zee ["thing"] (defScope z4c):=⟨rfl,rfl,rfl,by decide +kernel,rfl,by decide +kernel,by decide +kernel⟩
theorem zjx (B:BI mg) (L_MOST_RULES:∃ t,mg "MOST_RULES"=some (.int (4) t)) (G_q50:Got P w K mg base "is_name" ["thing"] (2) (z7s K)) (G_q52:Got P w K mg base "is_rule" ["thing"] (85) (z3j K)) (F:Fun K "is_kind" "is_kind" z4c f fd):FnOk P w K mg base CX0 (86) f fd ["thing"] (z7c K):=by
 refine F.ok sc_q47 (fun vs H Q E h=>?_) (fun cdv A outer s H vs Q E hr h=>?_)
 ·obtain ⟨v,t,rfl,_⟩:=h
  rfl
 obtain ⟨v,t,rfl,th,hf,q⟩:=h
 obtain ⟨tk_MOST_RULES,h_MOST_RULES⟩:=L_MOST_RULES
 have hun2:=hunT hr
 refine ⟨_,pss_cons (ps_if (PW.pt (pw_or (pt_not (pt_val (z0t B (pv 0) B.tuple boot_tuple))) (pw_or1 (pt_cmpR op_ne (pe_callB call_len_seq rfl B.len PySem.boot_len (pa_cons (pv 0) pa_nil)) pe_int (nomark _))))) (pss_one (ps_ret pe_bl)) pss_nil)
  (pss_cons (ps_asg (pv 0) (pg_tup rfl (pgs_cons (pg_name (i:=1) sc_q47.nd rfl (.inl rfl)) (pgs_cons (pg_name (i:=2) sc_q47.nd rfl (.inl rfl)) (pgs_cons (pg_name (i:=3) sc_q47.nd rfl (.inl rfl)) pgs_nil)))))
  (pss_cons (ps_if (PW.pt (pw_or (pt_not (pt_val (z00 G_q50 (hr.mono (by omega)) rfl (pa_cons (pv 1) pa_nil)))) (pw_or1 (pt_not (pt_val (z0t B (pv 2) B.bool boot_bool)))))) (pss_one (ps_ret pe_bl)) pss_nil)
  (pss_one (ps_ret (pe_and (z0t B (pv 3) B.list boot_list) (pe_and (pe_cmpR op_le (pe_callB call_len_seq rfl B.len PySem.boot_len (pa_cons (pv 3) pa_nil)) (pe_glob (v:=.int (4)) rfl h_MOST_RULES ⟨_,rfl⟩) (nomark _)) (pe_one (pe_callB (cr_all rfl) rfl B.all boot_all (pa_cons (pe_lc (own:=[("row",4)]) (g:=(gName 4)) (tt:=tYes) (te:=(tCall (z3j K) [] E0 (tCons (tVar 4) tNil))) rfl sc_q47.nd (pi_list (pv 3)) (blkOk_by (N:=zee) (sc:=defScope z4c) (by decide +kernel)) (fun _ _ _ _ _=>(pg_name (i:=4) sc_q47.nd rfl (.inl rfl))) (fun _ _ _ _ _=>pts_nil) (fun _ _ _ _ _=>(z00 G_q52 (hr.mono (by omega)) rfl (pa_cons (pv 4) pa_nil)))) pa_nil))))))))),?_⟩
 have no:¬ KTKd t->∀ H',SB [] H H'->Q (.bl false) H':=fun e H' s'=>q false H' s' ⟨(fun z=>nomatch z),fun z=>absurd z e⟩
 cases t with
 | other =>
  have n0:¬ KTKd .other:=by rintro ⟨k,e,_⟩; cases e
  obtain ⟨d,tg,hd⟩:=th
  obtain ⟨n1,b,ty,kb,y1,y2⟩:=tg.ty
  refine ⟨_,rfl,_,_,n1,b,rfl,ty,kb,b,rfl,?_⟩
  cases b with
  | false=>exact iteT (iteT (no n0 _ SB.refl))
  | true =>
  refine iteF ?_
  obtain ⟨a,xs,ds,rfl,rfl,hs,ha⟩:=y1 rfl
  refine ⟨_,rfl,a,xs,rfl,.inr hs,rfl,_,rfl,?_⟩
  have hl:=TgAll.length ha
  have h3:=hd ds rfl
  rw [show (!decide (V.int (xs.length:Nat)=V.int 3))=true by rw [decide_eq_false (fun z=>by injection z with z; omega)]; rfl]
  exact iteT (no n0 _ SB.refl)
 | three d w rs =>
  obtain ⟨a,x,y,z,rfl,hs,tx,ty,tz⟩:=th
  refine ⟨_,rfl,_,_,"tuple",true,rfl,z37 hs,by decide +kernel,_,rfl,?_⟩
  refine iteF ?_
  refine ⟨_,rfl,a,_,rfl,.inr hs,rfl,_,rfl,?_⟩
  rw [show (!decide (V.int (([x,y,z]:List V).length:Nat)=V.int 3))=false from rfl]
  refine iteF ?_
  refine ⟨_,rfl,a,_,rfl,hs,rfl,_,_,rfl,_,_,rfl,_,_,rfl,rfl,?_⟩
  refine ⟨_,rfl,x,d,rfl,tx,fun H1 s1=>?_⟩
  refine ⟨_,rfl,?_⟩
  cases g1:z1a d with
  | false =>
   refine iteT (iteT (no ?_ _ s1))
   rintro ⟨k,e,hk,_⟩
   injection e with e _ _
   rw [e,z9u hk] at g1
   cases g1
  | true =>
  refine iteF ?_
  obtain ⟨nm,rfl,hnm⟩:=z51 g1
  cases w with
  | none =>
   obtain ⟨n,ty,kb⟩:=ty
   refine ⟨_,rfl,_,_,n,false,rfl,z2h s1 (fun _ _=>nmn) ty,kb,_,rfl,?_⟩
   refine iteT (no ?_ _ s1)
   rintro ⟨k,e,_⟩
   injection e with _ e _
   cases e
  | some bb =>
  have ty:y=.bl bb:=ty
  subst ty
  refine ⟨_,rfl,_,_,"bool",true,rfl,.base (.bl bb),by decide +kernel,_,rfl,?_⟩
  refine iteF ?_
  cases rs with
  | none =>
   obtain ⟨n,ty,kb⟩:=tz
   refine ⟨_,rfl,_,_,n,false,rfl,z2h s1 (fun _ _=>nmn) ty,kb,_,rfl,?_⟩
   refine iteF (no ?_ _ s1)
   rintro ⟨k,e,_⟩
   injection e with _ _ e
   cases e
  | some ds =>
  obtain ⟨l,zs,rfl,hl,ha⟩:=tz
  obtain ⟨hd1,hd2⟩:=hf ds rfl
  refine ⟨_,rfl,_,_,"list",true,rfl,zjt (s1.sqL nmn (SqL.of hl)),by decide +kernel,_,rfl,?_⟩
  refine iteT ?_
  have hlen:=TgAll.length ha
  refine ⟨_,rfl,l,_,rfl,.inl (s1.sqL nmn (SqL.of hl)),_,_,rfl,rfl,_,rfl,?_⟩
  refine ite2 (fun c=>?_) (fun c=>?_)
  ·have c1:=of_decide_eq_true c
   rw [hlen] at c1
   have szl:=sizeLine_eq
   refine ⟨_,rfl,l,rfl,⟨_,s1.sqL nmn (SqL.of hl)⟩,fun D hD=>?_⟩
   refine z11 (walk_list (xs:=zs)) hD (by omega) (fun i us _=>∃ bs:List Bool,us=bs.map V.bl/\bs.length=i/\∀ j b,bs[j]?=some b->∀ x,ds[j]?=some x->(b=true ↔ RuD x)) ⟨[],rfl,rfl,fun j b h=>by rw [List.getElem?_nil] at h; cases h⟩ (fun H6 s6=>s6.sqL nmn (s1.sqL nmn (SqL.of hl))) (fun _ _ _ _ _ h=>h) (fun Pv i x H6 H' us hi s6 y hR hl6 fin _=>?_) (fun us H6 s6 hD6 hR _=>?_)
   ·obtain ⟨rfl,ex⟩:=y
    obtain ⟨p,ep,hp⟩:=TgAll.get ha ex
    obtain ⟨bs,rfl,hbl,hbs⟩:=hR
    refine ⟨rfl,_,rfl,x,p,rfl,z20 (s1.trans s6) hp,hd2 _ (List.mem_of_getElem? ep),fun b H7 s7 hb=>fin _ _ s7 ⟨bs++[b],by rw [List.map_append]; rfl,by rw [List.length_append,hbl]; rfl,fun j b' hj y hy=>?_⟩⟩
    by_cases hji:j < bs.length
    ·rw [List.getElem?_append_left hji] at hj
     exact hbs j b' hj y hy
    ·have hj':j=bs.length:=by
      have:=(List.getElem?_eq_some_iff.mp hj).1
      rw [List.length_append,List.length_singleton] at this
      omega
     subst hj'
     rw [List.getElem?_append_right (Nat.le_refl _),Nat.sub_self] at hj
     cases hj
     rw [hbl,ep] at hy
     cases hy
     exact hb
   ·obtain ⟨bs,rfl,hbl,hbs⟩:=hR
    refine ⟨D,bs,rfl,SqL.of hD6,q _ _ (s1.trans s6) ?_⟩
    have h1:(bs.all id=true) ↔ ∀ x ∈ ds,RuD x:=by
     rw [List.all_eq_true]
     constructor
     ·intro h x hx
      obtain ⟨j,hj,e⟩:=List.getElem_of_mem hx
      have hjb:j < bs.length:=by omega
      exact (hbs j bs[j] (List.getElem?_eq_getElem hjb) x (by rw [List.getElem?_eq_getElem hj,e])).mp (h _ (List.getElem_mem hjb))
     ·intro h b hb
      obtain ⟨j,hj,e⟩:=List.getElem_of_mem hb
      have hjb:j < ds.length:=by omega
      exact (hbs j b (by rw [List.getElem?_eq_getElem hj,e]) ds[j] (List.getElem?_eq_getElem hjb)).mpr (h _ (List.getElem_mem hjb))
    rw [h1]
    constructor
    ·intro h
     obtain ⟨rr,e1,e2⟩:=za9 h
     exact ⟨⟨nm,bb,rr⟩,by rw [Kd.kt,e1],hnm,by rw [e1,List.length_map] at c1; show rr.length<=4; omega,e2⟩
    ·rintro ⟨k,e,_,_,hk⟩ x hx
     injection e with _ _ e
     injection e with e
     rw [e] at hx
     obtain ⟨r,hr,rfl⟩:=List.mem_map.mp hx
     exact ⟨r,rfl,hk r hr⟩
  ·have c1:=of_decide_eq_false (Bool.eq_false_iff.mpr c)
   rw [hlen] at c1
   refine no ?_ _ s1
   rintro ⟨k,e,_,h4,_⟩
   injection e with _ _ e
   injection e with e
   rw [e,List.length_map] at c1
   omega
abbrev zgd:List Str:=["thing","once","each","pairs","tree","many"]
theorem sc_q52:FnScope zgd ["thing"] (defScope z42):=⟨rfl,rfl,rfl,by decide +kernel,rfl,by decide +kernel,by decide +kernel⟩
theorem ziv (B:BI mg) (L_MOST_RULE_PARTS:∃ t,mg "MOST_RULE_PARTS"=some (.int (4) t)) (L_MOST_MANY:∃ t,mg "MOST_MANY"=some (.int (1000000000) t)) (G_q46:Got P w K mg base "is_grove" ["thing"] (84) (z1e K 81)) (G_q67:Got P w K mg base "pairs_within" ["grove"] (70) (z17 K 70)) (F:Fun K "is_rule" "is_rule" z42 f fd):FnOk P w K mg base CX0 (85) f fd ["thing"] (z3j K):=by
 refine F.ok sc_q52 (fun vs H Q E h=>?_) (fun cdv A outer s H vs Q E hr h=>?_)
 ·obtain ⟨v,d,rfl,_⟩:=h
  rfl
 obtain ⟨v,d,rfl,th,hf,q⟩:=h
 obtain ⟨tk_MOST_RULE_PARTS,h_MOST_RULE_PARTS⟩:=L_MOST_RULE_PARTS
 obtain ⟨tk_MOST_MANY,h_MOST_MANY⟩:=L_MOST_MANY
 have hun2:=hunT hr
 refine ⟨_,pss_cons (ps_if (PW.pt (pw_or (pt_not (pt_val (z0t B (pv 0) B.tuple boot_tuple))) (pw_or1 (pt_cmpR op_ne (pe_callB call_len_seq rfl B.len PySem.boot_len (pa_cons (pv 0) pa_nil)) pe_int (nomark _))))) (pss_one (ps_ret pe_bl)) pss_nil)
  (pss_cons (ps_asg (pv 0) (pg_tup rfl (pgs_cons (pg_name (i:=1) sc_q52.nd rfl (.inl rfl)) (pgs_cons (pg_name (i:=2) sc_q52.nd rfl (.inl rfl)) pgs_nil))))
  (pss_cons (ps_if (PW.pt (pw_or (pt_not (pt_val (z00 G_q46 (hr.mono (by omega)) rfl (pa_cons (pv 1) pa_nil)))) (pw_or1 (pt_not (pt_val (z00 G_q46 (hr.mono (by omega)) rfl (pa_cons (pv 2) pa_nil))))))) (pss_one (ps_ret pe_bl)) pss_nil)
  (pss_cons (ps_set (i:=3) sc_q52.nd rfl (.inl rfl) (pe_op op_cat (z00 G_q67 (hr.mono (by omega)) rfl (pa_cons (pv 1) pa_nil)) (z00 G_q67 (hr.mono (by omega)) rfl (pa_cons (pv 2) pa_nil))))
  (pss_one (ps_ret (pe_and (pe_cmpR op_le (pe_callB call_len_seq rfl B.len PySem.boot_len (pa_cons (pv 3) pa_nil)) (pe_glob (v:=.int (4)) rfl h_MOST_RULE_PARTS ⟨_,rfl⟩) (nomark _)) (pe_one (pe_callB (cr_all rfl) rfl B.all boot_all (pa_cons (pe_lc (own:=[("tree",4),("many",5)]) (g:=(gTup K 2 (gCons (gName 4) (gCons (gName 5) gNil)))) (tt:=tYes) (te:=(tOp (rI0 fun i j=>.bl (decide (i<=j))) (tVar 5) (tC (.int (1000000000))))) rfl sc_q52.nd (pi_list (pv 3)) (blkOk_by (N:=zgd) (sc:=defScope z42) (by decide +kernel)) (fun _ _ _ _ _=>(pg_tup rfl (pgs_cons (pg_name (i:=4) sc_q52.nd rfl (.inl rfl)) (pgs_cons (pg_name (i:=5) sc_q52.nd rfl (.inl rfl)) pgs_nil)))) (fun _ _ _ _ _=>pts_nil) (fun _ _ _ _ _=>(pe_cmpR op_le (pv 5) (pe_glob (v:=.int (1000000000)) rfl h_MOST_MANY ⟨_,rfl⟩) (nomark _)))) pa_nil))))))))),?_⟩
 have no:¬ RuD d->∀ H',SB [] H H'->Q (.bl false) H':=fun e H' s'=>q false H' s' ⟨(fun z=>nomatch z),fun z=>absurd z e⟩
 obtain ⟨n1,b,ty,kb,y1,y2⟩:=th.ty
 refine ⟨_,rfl,_,_,n1,b,rfl,ty,kb,b,rfl,?_⟩
 cases b with
 | false =>
  refine iteT (iteT (no ?_ _ SB.refl))
  rintro ⟨r,e,_⟩
  exact y2 rfl _ e
 | true =>
 refine iteF ?_
 obtain ⟨a,xs,ds,rfl,rfl,hs,ha⟩:=y1 rfl
 refine ⟨_,rfl,a,xs,rfl,.inr hs,rfl,_,rfl,?_⟩
 have hl:=TgAll.length ha
 by_cases c2:xs.length=2
 ·rw [show (!decide (V.int (xs.length:Nat)=V.int 2))=false by rw [c2]; rfl]
  refine iteF ?_
  cases ha with
  | nil=>simp at c2
  | cons t1 ta =>
   cases ta with
   | nil=>simp at c2
   | cons t2 ta =>
    cases ta with
    | cons t3 ta=>simp at c2
    | nil =>
     rename_i v1 d1 v2 d2
     obtain ⟨f1,f2,f3⟩:=hf
     have q1:d1.depth < PyData.depth (.tuple [d1,d2])/\d2.depth < PyData.depth (.tuple [d1,d2]):=by simp only [PyData.depth,PyData.depthAll]; omega
     have q2:wide d1<=wide (.tuple [d1,d2])/\wide d2<=wide (.tuple [d1,d2]):=by simp only [wide,z14]; omega
     refine ⟨_,rfl,a,_,rfl,hs,rfl,_,_,rfl,_,_,rfl,rfl,?_⟩
     refine ⟨_,rfl,v1,d1,rfl,t1,by omega,by omega,by omega,fun H1 s1=>?_⟩
     refine ⟨_,rfl,?_⟩
     cases g1:z0a d1 with
     | false =>
      refine iteT (iteT (no ?_ _ s1))
      intro z
      obtain ⟨g,k,e,z1,_⟩:=zah z
      injection e with e
      injection e with e _
      rw [e,z1] at g1
      cases g1
     | true =>
     refine iteF ?_
     refine ⟨_,rfl,v2,d2,rfl,z20 s1 t2,by omega,by omega,by omega,fun H2 s2=>?_⟩
     have s02:=s1.trans s2
     refine ⟨_,rfl,?_⟩
     cases g2:z0a d2 with
     | false =>
      refine iteT (no ?_ _ s02)
      intro z
      obtain ⟨g,k,e,_,z1⟩:=zah z
      injection e with e
      injection e with _ e
      injection e with e _
      rw [e,z1] at g2
      cases g2
     | true =>
     refine iteF ?_
     obtain ⟨u1,rfl⟩:=z4v _ g1
     obtain ⟨u2,rfl⟩:=z4v _ g2
     obtain ⟨w1,w2⟩:=f3 _ _ rfl u1 (.inl rfl)
     obtain ⟨w3,w4⟩:=f3 _ _ rfl u2 (.inr rfl)
     have ga1:GA K H v1 u1:=by
      cases t1 with
      | tup h1 h2=>exact .tup h1 (z45 u1 h2)
     have ga2:GA K H v2 u2:=by
      cases t2 with
      | tup h1 h2=>exact .tup h1 (z45 u2 h2)
     refine ⟨_,rfl,_,u1,rfl,ga1.sb s02,by omega,by omega,fun D1 us1 H3 s3 hn1 hD1 hb1=>?_⟩
     refine ⟨_,rfl,_,u2,rfl,(ga2.sb s02).sb s3,by omega,by omega,fun D2 us2 H4 s4 hn2 hD2 hb2=>?_⟩
     have l1:=hb1.length
     have l2:=hb2.length
     rw [Gr.within_length] at l1 l2
     have szl:=sizeLine_eq
     refine ⟨D1,D2,us1,us2,rfl,rfl,s4.keep _ _ hD1 nmn,hD2,by omega,fun D3 hn3=>?_⟩
     have t5:=SB.new (ps:=[]) hn3 (.lst (us1++us2))
     have s05:=((s02.trans s3).trans s4).trans t5
     have hD3:upd H4 D3 (.lst (us1++us2)) D3=some (.lst (us1++us2)):=upd_same
     have hb3:Bears K (upd H4 D3 (.lst (us1++us2))) Gr.pEnc (us1++us2) (u1.within++u2.within):=Bears.append ((hb1.sb s4 Gr.noList_pEnc).sb t5 Gr.noList_pEnc) (hb2.sb t5 Gr.noList_pEnc)
     generalize upd H4 D3 (.lst (us1++us2))=H5 at t5 s05 hD3 hb3
     have iff1:=zgx g1 g2
     refine ⟨_,rfl,D3,_,rfl,.inl (SqL.of hD3),_,_,rfl,rfl,_,rfl,?_⟩
     refine ite2 (fun c=>?_) (fun c=>?_)
     ·have c1:=of_decide_eq_true c
      rw [List.length_append,l1,l2] at c1
      have bl3:=hb3.length
      refine ⟨_,rfl,D3,rfl,⟨_,SqL.of hD3⟩,fun D hD=>?_⟩
      refine z11 (walk_list (xs:=us1++us2)) hD (by rw [List.length_append]; omega) (fun i us _=>us=((u1.within++u2.within).take i).map fun p=>V.bl (decide (p.2<=1000000000))) rfl (fun H6 s6=>s6.sqL nmn (SqL.of hD3)) (fun _ _ _ _ _ h=>h) (fun Pv i x H6 H' us hi s6 y hR hl6 fin _=>?_) (fun us H6 s6 hD6 hR _=>?_)
      ·obtain ⟨rfl,ex⟩:=y
       obtain ⟨p,ep,hpd⟩:=hb3.get ex
       obtain ⟨ad,td,ux,rfl,hs2,hs3,hga,hdt⟩:=z0h hpd
       refine ⟨ad,_,rfl,s6.sqT hs2,rfl,_,_,rfl,_,_,rfl,rfl,rfl,?_⟩
       refine ⟨_,rfl,_,_,rfl,rfl,fin _ _ SB.refl ?_⟩
       rw [hR,List.take_add_one,ep,Option.toList_some,List.map_append]; rfl
      ·rw [bl3,List.take_length] at hR
       subst hR
       refine ⟨D,((u1.within++u2.within).map fun p=>decide (p.2<=1000000000)),rfl,SqL.of (by rw [List.map_map]; exact hD6),q _ _ (s05.trans s6) ?_⟩
       rw [iff1]
       simp only [List.all_map,List.all_eq_true,Function.comp,id_eq,decide_eq_true_eq]
       exact ⟨fun h=>⟨by omega,h⟩,fun h=>h.2⟩
     ·have c1:=of_decide_eq_false (Bool.eq_false_iff.mpr c)
      rw [List.length_append,l1,l2] at c1
      refine q false _ s05 ⟨(fun z=>nomatch z),fun z=>absurd (iff1.mp z).1 (by omega)⟩
 ·rw [show (!decide (V.int (xs.length:Nat)=V.int 2))=true by rw [decide_eq_false (fun z=>by injection z with z; omega)]; rfl]
  refine iteT (no ?_ _ SB.refl)
  rintro ⟨r,e,_⟩
  have e':PyData.tuple ds=.tuple [r.1.enc,r.2.enc]:=e
  injection e' with e'
  rw [e'] at hl
  exact c2 hl
abbrev zfy:List Str:=["rule","names","once","each","tree","many"]
theorem sc_q53:FnScope zfy ["rule","names"] (defScope z3l):=⟨rfl,rfl,rfl,by decide +kernel,rfl,by decide +kernel,by decide +kernel⟩
theorem zic (B:BI mg) (G_q67:Got P w K mg base "pairs_within" ["grove"] (70) (z17 K 70)) (F:Fun K "is_rule_of" "is_rule_of" z3l f fd):FnOk P w K mg base CX0 (71) f fd ["rule","names"] (z26 K):=by
 refine F.ok sc_q53 (fun vs H Q E h=>?_) (fun cdv A outer s H vs Q E hr h=>?_)
 ·obtain ⟨v,l,r,ns,rfl,_⟩:=h
  rfl
 obtain ⟨v,l,r,ns,rfl,hv,ho,hs,hn,q⟩:=h
 have hun2:=hunT hr
 refine ⟨_,pss_cons (ps_asg (pv 0) (pg_tup rfl (pgs_cons (pg_name (i:=2) sc_q53.nd rfl (.inl rfl)) (pgs_cons (pg_name (i:=3) sc_q53.nd rfl (.inl rfl)) pgs_nil))))
  (pss_one (ps_ret (pe_callB (cr_all rfl) rfl B.all boot_all (pa_cons (pe_lc (own:=[("tree",4),("many",5)]) (g:=(gTup K 2 (gCons (gName 4) (gCons (gName 5) gNil)))) (tt:=tYes) (te:=(tOp (rIn K false) (tOp (rIxT K) (tVar 4) (tC (.int 0))) (tVar 1))) rfl sc_q53.nd (pi_list (pe_op op_cat (z00 G_q67 (hr.mono (by omega)) rfl (pa_cons (pv 2) pa_nil)) (z00 G_q67 (hr.mono (by omega)) rfl (pa_cons (pv 3) pa_nil)))) (blkOk_by (N:=zfy) (sc:=defScope z3l) (by decide +kernel)) (fun _ _ _ _ _=>(pg_tup rfl (pgs_cons (pg_name (i:=4) sc_q53.nd rfl (.inl rfl)) (pgs_cons (pg_name (i:=5) sc_q53.nd rfl (.inl rfl)) pgs_nil)))) (fun _ _ _ _ _=>pts_nil) (fun _ _ _ _ _=>(pe_cmpR op_in_seq (pe_ix ix_tup (pv 4) pe_int (fun _ _=>rfl)) (pv 1) (by rfl)))) pa_nil)))),?_⟩
 obtain ⟨ho1,ho2,ho3⟩:=ho
 cases (hv:Dp K H v (.tuple [r.1.enc,r.2.enc])) with
 | tup ht hd =>
 rename_i a xs
 cases hd with
 | cons g1 hd =>
 cases hd with
 | cons g2 hd =>
 cases hd
 have dp1:=(z0e r.1)
 have dp2:=(z0e r.2)
 refine ⟨_,rfl,a,_,rfl,ht,rfl,_,_,rfl,_,_,rfl,rfl,?_⟩
 have ga1:GA K H _ r.1:=g1
 have ga2:GA K H _ r.2:=g2
 refine ⟨_,rfl,_,r.1,rfl,ga1,by omega,by omega,fun D1 us1 H3 s3 hn1 hD1 hb1=>?_⟩
 refine ⟨_,rfl,_,r.2,rfl,ga2.sb s3,by omega,by omega,fun D2 us2 H4 s4 hn2 hD2 hb2=>?_⟩
 have l1:=hb1.length
 have l2:=hb2.length
 rw [Gr.within_length] at l1 l2
 have szl:=sizeLine_eq
 refine ⟨D1,D2,us1,us2,rfl,rfl,s4.keep _ _ hD1 nmn,hD2,by omega,fun D3 hn3=>?_⟩
 have t5:=SB.new (ps:=[]) hn3 (.lst (us1++us2))
 have s05:=(s3.trans s4).trans t5
 have hD3:upd H4 D3 (.lst (us1++us2)) D3=some (.lst (us1++us2)):=upd_same
 have hb3:Bears K (upd H4 D3 (.lst (us1++us2))) Gr.pEnc (us1++us2) (r.1.within++r.2.within):=Bears.append ((hb1.sb s4 Gr.noList_pEnc).sb t5 Gr.noList_pEnc) (hb2.sb t5 Gr.noList_pEnc)
 generalize upd H4 D3 (.lst (us1++us2))=H5 at t5 s05 hD3 hb3
 have bl3:=hb3.length
 refine ⟨D3,rfl,⟨_,SqL.of hD3⟩,fun D hD=>?_⟩
 refine z11 (walk_list (xs:=us1++us2)) hD (by rw [List.length_append]; omega) (fun i us _=>us=((r.1.within++r.2.within).take i).map fun p=>V.bl (decide (p.1.1 ∈ ns))) rfl (fun H6 s6=>s6.sqL nmn (SqL.of hD3)) (fun _ _ _ _ _ h=>h) (fun Pv i x H6 H' us hi s6 y hR hl6 fin _=>?_) (fun us H6 s6 hD6 hR _=>?_)
 ·obtain ⟨rfl,ex⟩:=y
  obtain ⟨p,ep,hpd⟩:=hb3.get ex
  obtain ⟨ad,td,ux,rfl,hs2,hs3,hga,hdt⟩:=z0h hpd
  refine ⟨ad,_,rfl,s6.sqT hs2,rfl,_,_,rfl,_,_,rfl,rfl,rfl,?_⟩
  refine ⟨_,rfl,td,_,_,_,rfl,rfl,s6.sqT hs3,atI_nat (j:=0) rfl,_,rfl,l,_,rfl,.inl ((s05.trans s6).sqL nmn hs),rfl,z1f _,fin _ _ SB.refl ?_⟩
  rw [hR,List.take_add_one,ep,Option.toList_some,List.map_append,z1s]; rfl
 ·rw [bl3,List.take_length] at hR
  subst hR
  refine ⟨D,((r.1.within++r.2.within).map fun p=>decide (p.1.1 ∈ ns)),rfl,SqL.of (by rw [List.map_map]; exact hD6),?_⟩
  have:=q _ (s05.trans s6)
  rw [show (List.map (fun p:Tr × Int=>decide (p.1.1 ∈ ns)) (r.1.within++r.2.within)).all id=decide (∀ p ∈ Ru.within r,p.1.1 ∈ ns) by
   rw [Bool.eq_iff_iff]
   simp only [List.all_map,List.all_eq_true,Function.comp,id_eq,decide_eq_true_eq]
   exact Iff.rfl]
  exact this
abbrev zlg:List Str:=["grove","place","tree","row","at"]
theorem sc_q82:FnScope zlg ["grove","place"] (defScope z5k):=⟨rfl,rfl,rfl,by decide +kernel,rfl,by decide +kernel,by decide +kernel⟩
theorem zi6 {C:Addr} (B:BI mg) (O:Own K mg "NoPlace" C) (GW:Got P w K mg base "is_whole" ["thing"] 1 (z2a K)) (F:Fun K "tree_at" "tree_at" z5k f fd):FnOk P w K mg base (L2.CX P w) 2 f fd ["grove","place"] (z2o K C):=by
 refine F.okX sc_q82 (fun vs H Q E h=>?_) (fun cdv A outer s H vs Q E hr h=>?_)
 ·obtain ⟨v,g,a,xs,os,rfl,_⟩:=h
  rfl
 obtain ⟨v,g,a,xs,os,rfl,hv,hs,hw,q,qE⟩:=h
 refine ⟨_,pss_cons (ps_if (pt_not (pt_truth (pv 1) (by intro _; rfl))) (pss_one (ps_raise rfl (takes_of rfl rfl rfl rfl) (pmk_own PySem.F.excBase_ValueError O.q O.gC O.k (raises_own O.s O.t) rfl))) pss_nil)
  (pss_cons (ps_set (i:=2) sc_q82.nd rfl (.inl rfl) (pe_tup pa_nil))
  (pss_cons (ps_set (i:=3) sc_q82.nd rfl (.inl rfl) (pv 0))
  (pss_cons (ps_for (passes_of rfl) rfl (pi_tup (pv 1)) (pg_name (i:=4) sc_q82.nd rfl (.inl rfl))
   (pss_cons (ps_if (PW.pt (pw_or (pt_not (pt_val (z00 GW hr rfl (pa_cons (pv 4) pa_nil)))) (pw_or1 (pt_not (pt_chain op_le op_lt pe_int (pv 4) (pe_callB call_len_seq rfl B.len PySem.boot_len (pa_cons (pv 3) pa_nil)))))))
    (pss_one (ps_raise rfl (takes_of rfl rfl rfl rfl) (pmk_own PySem.F.excBase_ValueError O.q O.gC O.k (raises_own O.s O.t) rfl))) pss_nil)
   (pss_cons (ps_set (i:=2) sc_q82.nd rfl (.inl rfl) (pe_ix ix_tup (pe_ix ix_tup (pv 3) (pv 4) (fun _ _=>rfl)) pe_int (fun _ _=>rfl)))
   (pss_one (ps_set (i:=3) sc_q82.nd rfl (.inl rfl) (pe_ix ix_tup (pv 2) pe_int (fun _ _=>rfl)))))))
  (pss_one (ps_ret (pv 2)))))),?_⟩
 have wl:=hw.length
 by_cases hnil:os=[]
 ·have x0:xs=[]:=by rw [hnil] at wl; exact List.length_eq_zero_iff.mp wl
  exact ⟨_,rfl,false,.inr (.inl ⟨xs,hs,by rw [x0]; rfl⟩),iteT (qE (.inl hnil) _ SB.refl)⟩
 have x1:xs ≠ []:=fun z=>hnil (by rw [z] at wl; exact List.length_eq_zero_iff.mp wl.symm)
 refine ⟨_,rfl,true,.inr (.inl ⟨xs,hs,by cases xs with | nil=>exact absurd rfl x1 | cons _ _=>rfl⟩),iteF ?_⟩
 refine ⟨(by show 0<=sizeLine; decide),fun e0 he0=>?_⟩
 have t0:=SB.new (ps:=[]) he0 (.tup [])
 have hv0:=hv.sb t0
 have hs0:=t0.sqT hs
 have hw':Whs K (upd H e0 (.tup [])) xs os:=Whs.sb t0 hw
 generalize hH0:upd H e0 (.tup [])=H0 at t0 hv0 hs0 hw'
 refine ⟨_,rfl,_,rfl,a,rfl,⟨xs,hs0⟩,?_⟩
 refine for_tup (K:=K) (a:=a) (xs:=xs) (fun i σ H2=>H2=H0/\∃ (tv rv:V) (t:Tr) (o4:Option V),σ=[some v,some (.ref a),some tv,some rv,o4]/\lk ("",g) (os.take i)=some t/\GA K H0 rv t.2/\(i=0\/Dp K H0 tv (Gr.tEnc t)))
  ⟨rfl,_,_,("",g),none,rfl,rfl,hv0,.inl rfl⟩ (fun i σ H2 hi h2=>by rw [h2.1]; exact hs0) (fun i x σ H2 hx h2=>?_) (fun σ H2 h2=>?_)
 ·obtain ⟨rfl,tv,rv,t,o4,rfl,hlk,hrv,_⟩:=h2
  obtain ⟨o,eo,hwx⟩:=hw'.get hx
  have bad:stp t.2 o=none->E (.ref C) none H2:=fun z=>qE (.inr (zgt hlk eo z)) _ t0
  rcases hwx with ⟨n,rfl,rfl⟩ | ⟨rfl,n,b1,b2,ty,k1,k2,k3⟩
  ·refine ⟨_,rfl,_,"int",true,false,rfl,.base (.int n),by decide +kernel,fun _=>by decide +kernel,true,rfl,iteF ?_⟩
   obtain ⟨c,ys,rfl,hsc,hbc⟩:=z0i hrv
   have yl:=hbc.length
   refine ⟨_,rfl,_,_,rfl,rfl,_,rfl,?_⟩
   by_cases h0:0<=n
   ·rw [decide_eq_true h0]
    refine iteT ⟨_,rfl,c,ys,rfl,.inr hsc,_,_,rfl,rfl,_,rfl,?_⟩
    obtain ⟨m,rfl⟩:∃ m:Nat,n=(m:Int):=⟨n.toNat,by omega⟩
    by_cases h1:m < ys.length
    ·rw [show decide ((m:Int) < (ys.length:Nat))=true from decide_eq_true (by omega)]
     refine iteF ?_
     obtain ⟨y,hy⟩:∃ y,ys[m]?=some y:=⟨_,List.getElem?_eq_getElem h1⟩
     obtain ⟨p,ep,hpd⟩:=hbc.get hy
     obtain ⟨ad,bd,ux,rfl,hsx,hst,hdx,hdt⟩:=z0h hpd
     refine ⟨_,rfl,_,rfl,c,ys,_,_,rfl,rfl,hsc,atI_nat hy,ad,_,_,_,rfl,rfl,hsx,atI_nat (j:=0) rfl,?_⟩
     refine ⟨_,rfl,bd,_,_,_,rfl,rfl,hst,atI_nat (j:=1) rfl,?_⟩
     have es:stp t.2 (some (m:Int))=some p.1:=by
      show (if 0<=(m:Int) then (t.2.ps[(m:Int).toNat]?).map (·.1) else none)=_
      rw [if_pos h0,Int.toNat_natCast,ep]; rfl
     exact ⟨rfl,_,_,p.1,_,rfl,zh6 hlk eo es,hdx,.inr hdt⟩
    ·rw [show decide ((m:Int) < (ys.length:Nat))=false from decide_eq_false (by omega)]
     refine iteT (bad ?_)
     show (if 0<=(m:Int) then (t.2.ps[(m:Int).toNat]?).map (·.1) else none)=_
     rw [if_pos h0,Int.toNat_natCast,List.getElem?_eq_none (by omega)]; rfl
   ·rw [decide_eq_false h0]
    refine iteF ⟨_,rfl,iteT (bad ?_)⟩
    show (if 0<=n then (t.2.ps[n.toNat]?).map (·.1) else none)=_
    rw [if_neg h0]
  ·refine ⟨_,rfl,_,n,b1,b2,rfl,ty,k1,k2,_,rfl,?_⟩
   rw [k3]
   exact iteT (iteT (bad rfl))
 ·obtain ⟨rfl,tv,rv,t,o4,rfl,hlk,hrv,h3⟩:=h2
  rw [wl,List.take_length] at hlk
  refine ⟨_,rfl,q t hnil hlk _ _ t0 ?_⟩
  rcases h3 with h3 | h3
  ·exact absurd (List.length_eq_zero_iff.mp h3) x1
  ·exact h3
abbrev zf5:List Str:=["grove","tree","pair"]
theorem sc_q65:FnScope zf5 ["grove","tree"] (defScope z4p):=⟨rfl,rfl,rfl,by decide +kernel,rfl,by decide +kernel,by decide +kernel⟩
theorem zhr (B:BI mg) (F:Fun K "number_of" "number_of" z4p f fd):FnOk P w K mg base CX0 (1) f fd ["grove","tree"] (z8g K):=by
 refine F.ok sc_q65 (fun vs H Q E h=>?_) (fun cdv A outer s H vs Q E hr h=>?_)
 ·obtain ⟨v,u,g,t,m,rfl,_⟩:=h
  rfl
 obtain ⟨v,u,g,t,m,rfl,hv,hu,⟨C,go⟩,gd,gl,tm,q⟩:=h
 have hun2:=hunT hr
 refine ⟨_,pss_one (ps_ret (pe_bm PySem.F.plainAttrs_list PySem.F.slot_list_index PySem.F.type_list_index (zc9 (by show A.units+3+196 < cLine; omega)) (pe_lc (own:=[("pair",2)]) (g:=(gName 2)) (tt:=tYes) (te:=(tOp (rIxT K) (tVar 2) (tC (.int 0)))) rfl sc_q65.nd (pi_tup (pv 0)) (blkOk_by (N:=zf5) (sc:=defScope z4p) (by decide +kernel)) (fun _ _ _ _ _=>(pg_name (i:=2) sc_q65.nd rfl (.inl rfl))) (fun _ _ _ _ _=>pts_nil) (fun _ _ _ _ _=>(pe_ix ix_tup (pv 2) pe_int (fun _ _=>rfl)))) (pa_cons (pv 1) pa_nil))),?_⟩
 have szl:=sizeLine_eq
 obtain ⟨a,xs,rfl,hs,hb⟩:=z0i hv
 have xl:=hb.length
 obtain ⟨n1,o1,_,_⟩:=Gr.ok_mem go tm
 have td:t.2.deep < g.deep:=g.mem_deep (t,m) tm
 have hpos:=Gr.pos_at go tm
 refine ⟨_,rfl,a,rfl,⟨xs,hs⟩,fun D nD=>?_⟩
 refine z66 (walk_tup (xs:=xs)) [] nD (by simp) (by omega) (fun i us H2=>Bears K H2 Gr.tEnc us ((g.ps.take i).map fun p:Tr × Int=>p.1)) .nil (fun H2 s2=>s2.sqT hs) (fun i us H2 H3 s3 h=>h.sb s3 Gr.noList_tEnc) (fun Pv i x Hq H2 us hi s2 y hR hu hD2 fin _=>?_) (fun us H2 s2 hD2 hR hul=>?_)
 ·obtain ⟨rfl,ey⟩:=y
  obtain ⟨p,ep,hpd⟩:=hb.get ey
  obtain ⟨ad,bd,ux,rfl,h1,h2,h3,h4⟩:=z0h hpd
  refine ⟨rfl,_,rfl,ad,_,_,_,rfl,rfl,s2.sqT h1,atI_nat (j:=0) rfl,fin _ _ SB.refl ?_⟩
  rw [List.take_add_one,ep,List.map_append]
  exact hR.append (.cons (z01 s2 _ _ (Gr.noList_tEnc _) h4) .nil)
 ·rw [xl,List.take_length] at hR
  have hds:DpAll K H2 us ((g.ps.map fun p:Tr × Int=>p.1).map Gr.tEnc):=z7d hR
  have e:∀ i:Nat,((g.ps.map fun p:Tr × Int=>p.1).map Gr.tEnc)[i]?=(g.ps[i]?).map fun p=>Gr.tEnc p.1:=fun i=>by rw [List.getElem?_map,List.getElem?_map,Option.map_map]; rfl
  refine ⟨.inl ⟨rfl,_,SqL.of hD2⟩,_,rfl,D,_,Gr.tEnc t,_,Gr.pos g t,Gr.tEnc t,rfl,rfl,.lst (SqL.of hD2) hds,z01 s2 _ _ (Gr.noList_tEnc _) hu,?_,Gr.wd_t n1 o1 (by omega),?_,?_,fun j z' hj hz=>?_,q _ s2⟩
  ·rw [List.map_map]
   exact Gr.lay_ts fun p hp=>by obtain ⟨h1,h2,_⟩:=Gr.ok_mem go hp; exact ⟨h1,h2⟩
  ·rw [e,hpos]; rfl
  ·rw [Gr.t_eqv]; simp
  ·rw [e] at hz
   obtain ⟨p,ep,rfl⟩:=Option.map_eq_some_iff.mp hz
   rw [Gr.t_eqv]
   refine decide_eq_false fun z=>?_
   have:=Gr.pos_of go ep
   rw [z] at this
   omega
abbrev zex:List Str:=["grove","found","at","pair","place"]
theorem sc_q28:FnScope zex ["grove"] (defScope z4f):=⟨rfl,rfl,rfl,by decide +kernel,rfl,by decide +kernel,by decide +kernel⟩
theorem zd2 {ps:List Str} {k:Nat}:FnOk P w K mg base CX0 k f fd ps (z3d K 0):=z0o fun vs H Q E ⟨v,g,_,_,h,_⟩=>by omega
theorem zj1 {n:Nat} (B:BI mg) (G_q28:Got P w K mg base "all_places" ["grove"] (n) (z3d K n)) (F:Fun K "all_places" "all_places" z4f f fd):FnOk P w K mg base CX0 (n+1) f fd ["grove"] (z3d K (n+1)):=by
 refine F.ok sc_q28 (fun vs H Q E h=>?_) (fun cdv A outer s H vs Q E hr h=>?_)
 ·obtain ⟨v,g,rfl,_⟩:=h
  rfl
 obtain ⟨v,g,rfl,hv,hd,hd100,hp,q⟩:=h
 have hun2:=hunT hr
 refine ⟨_,pss_cons (ps_set (i:=1) sc_q28.nd rfl (.inl rfl) (pe_lst pa_nil))
  (pss_cons (ps_for PassesOwn.never rfl (z7n rfl B.enumerate (pv 0)) (pg_tup rfl (pgs_cons (pg_name (i:=2) sc_q28.nd rfl (.inr rfl)) (pgs_cons (pg_name (i:=3) sc_q28.nd rfl (.inl rfl)) pgs_nil)))
   (pss_cons (ps_expr (pe_bm PySem.F.plainAttrs_list PySem.F.slot_list_append PySem.F.type_list_append mt_append (pv 1) (pa_cons (pe_tup (pa_cons (pv 2) pa_nil)) pa_nil)))
  (pss_one (ps_expr (pe_bm PySem.F.plainAttrs_list PySem.F.slot_list_extend PySem.F.type_list_extend mt_extend (pv 1) (pa_cons (pe_lc (own:=[("place",4)]) (g:=(gName 4)) (tt:=tYes) (te:=(tOp (zet K) (tTup (tCons (tVar 2) tNil)) (tVar 4))) rfl sc_q28.nd (pi_list (z00 G_q28 (hr.mono (by omega)) rfl (pa_cons (pe_ix ix_tup (pe_ix ix_tup (pv 3) pe_int (fun _ _=>rfl)) pe_int (fun _ _=>rfl)) pa_nil))) (blkOk_by (N:=zex) (sc:=defScope z4f) (by decide +kernel)) (fun _ _ _ _ _=>(pg_name (i:=4) sc_q28.nd rfl (.inl rfl))) (fun _ _ _ _ _=>pts_nil) (fun _ _ _ _ _=>(pe_op z1p (pe_tup (pa_cons (pv 2) pa_nil)) (pv 4)))) pa_nil))))))
  (pss_one (ps_ret (pv 1)))),?_⟩
 obtain ⟨a,xs,rfl,hs,hb⟩:=z0i hv
 have bl:=hb.length
 have lenb:=g.ak_len 0
 refine ⟨(by show 0<=sizeLine; decide),fun D hD=>?_⟩
 refine ⟨_,rfl,a,xs,rfl,(SB.new (ps:=[]) hD _).sqT hs,?_⟩
 refine for_it (z4a (xs:=xs)) (fun i σ H2=>SB [D] H H2/\∃ us o2 o3,σ=[some (.ref a),some (.ref D),o2,o3,none]/\H2 D=some (.lst us)/\Bears K H2 z0d us ((Gr.aks (g.ps.take i) 0).map (·.1))) ⟨SB.new hD _,[],none,none,rfl,upd_same,.nil⟩ (fun i σ H2 hi h2=>(h2.1.drop hD).sqT hs) (fun i x σ H2 H' hi h2 y=>?_) (fun σ H2 h2=>?_)
 ·obtain ⟨s2,us,o2,o3,rfl,hD2,hb2⟩:=h2
  obtain ⟨T,e1,e2,rfl,hT,rfl,ee1,ee2⟩:=y
  have he1:e1=.int (i:Nat):=(Option.some.inj ee1).symm
  subst he1
  obtain ⟨p,ep,hpd⟩:=hb.get ee2
  have pm:=List.mem_of_getElem? ep
  obtain ⟨ad,td,ux,rfl,hs2,hs3,hga,_⟩:=z0h hpd
  have t3:=SB.new (ps:=[D]) hT (.tup [.int (i:Nat),.ref ad])
  have hD3:(upd H2 T (.tup [.int (i:Nat),.ref ad])) D=some (.lst us):=by rw [upd_ne (ne_of_none hD2 hT)]; exact hD2
  have hT3:SqT K (upd H2 T (.tup [.int (i:Nat),.ref ad])) T [.int (i:Nat),.ref ad]:=SqT.of upd_same
  have s3:=s2.trans t3
  have hb3:=hb2.sb t3 z08
  generalize hH3:upd H2 T (.tup [.int (i:Nat),.ref ad])=H3 at t3 hD3 hT3 s3 hb3
  have ul:=hb3.length
  rw [List.length_map] at ul
  have pd:=g.mem_deep p pm
  have pp:=g.mem_parts p pm
  have hsp:g.ak 0=Gr.aks (g.ps.take i) 0++Gr.akP p i++Gr.aks (g.ps.drop (i+1)) (i+1):=by
   rw [Gr.ak_ps]
   conv=>lhs; rw [<- List.take_append_drop (i+1) g.ps]
   rw [Gr.aks_append,Gr.aks_take ep,List.length_take,Nat.min_eq_left (by omega),Nat.zero_add]
  have hlen:=congrArg List.length hsp
  rw [List.length_append,List.length_append] at hlen
  have hP:(Gr.akP p i).length=1+p.1.2.parts:=by
   unfold Gr.akP
   rw [List.length_cons,List.length_map,Gr.ak_len]; omega
  refine ⟨T,_,rfl,hT3,rfl,_,_,rfl,_,_,rfl,rfl,?_⟩
  refine ⟨_,rfl,.inl ⟨rfl,_,SqL.of hD3⟩,_,rfl,(by show 1<=sizeLine; decide),fun t ht=>?_⟩
  have t4:=SB.new (ps:=[D]) ht (.tup [.int (i:Nat)])
  have hD4:(upd H3 t (.tup [.int (i:Nat)])) D=some (.lst us):=by rw [upd_ne (ne_of_none hD3 ht)]; exact hD3
  refine ⟨D,us,_,rfl,rfl,hD4,z0s (by omega),?_⟩
  have t5:=SB.set (ps:=[D]) hD4 (by simp) (.lst (us++[.ref t]))
  have hD5:(upd (upd H3 t (.tup [.int (i:Nat)])) D (.lst (us++[.ref t]))) D=some (.lst (us++[.ref t])):=upd_same
  have hb5:=Bears.append ((hb3.sb t4 z08).sb t5 z08) (.cons (z27 (p:=[i]) (t5.sqT (SqT.of upd_same))) .nil)
  have s5:=(s3.trans t4).trans t5
  generalize hH5:upd (upd H3 t (.tup [.int (i:Nat)])) D (.lst (us++[.ref t]))=H5 at t5 hD5 hb5 s5
  have s5':=s5.drop hD
  refine ⟨_,rfl,.inl ⟨rfl,_,SqL.of hD5⟩,?_⟩
  refine ⟨_,rfl,ad,_,_,_,rfl,rfl,s5'.sqT hs2,atI_nat (j:=0) rfl,td,_,_,_,rfl,rfl,s5'.sqT hs3,atI_nat (j:=1) rfl,_,p.1.2,rfl,hga.sb s5',by omega,by omega,by omega,fun D2 vs2 H6 s6 nD2 hD6 hb6=>?_⟩
  have hD6':=s6.keep _ _ hD5 nmn
  have vl:=hb6.length
  rw [List.length_map] at vl
  have pal:=p.1.2.ak_len 0
  refine ⟨D2,rfl,⟨_,SqL.of hD6⟩,fun L hL=>?_⟩
  have DL:D ≠ L:=ne_of_none hD6' hL
  refine z11 (walk_list (xs:=vs2)) hL (by have:=z0s (n:=vs2.length) (by omega); omega) (fun j ws H7=>Bears K H7 z0d ws (((p.1.2.ak 0).take j).map fun x:Pl × Str=>i::x.1)) .nil (fun H7 s7=>s7.sqL nmn (SqL.of hD6)) (fun _ _ _ _ e h=>h.sb e z08) (fun Pv j z Hq H7 ws hj s7 yz hR hw fin _=>?_) (fun ws H7 s7 hL7 hR hw=>?_)
  ·obtain ⟨rfl,ez⟩:=yz
   obtain ⟨pl,epl,hpl⟩:=hb6.get ez
   rw [List.getElem?_map] at epl
   obtain ⟨x,ex,rfl⟩:=Option.map_eq_some_iff.mp epl
   obtain ⟨pa,rfl,hpa⟩:=z29 hpl
   have plong:=p.1.2.ak_long 0 x (List.mem_of_getElem? ex)
   refine ⟨rfl,?_⟩
   refine ⟨_,rfl,(by show 1<=sizeLine; decide),fun t ht=>?_⟩
   have t8:=SB.new (ps:=[]) ht (.tup [.int (i:Nat)])
   refine ⟨_,rfl,t,pa,_,_,rfl,rfl,SqT.of upd_same,t8.sqT (s7.sqT hpa),?_,fun c H8 s8 hc=>?_⟩
   ·rw [List.length_map,List.length_singleton]
    have:=z23 (n:=1+x.1.length) (by omega)
    omega
   refine fin _ _ (t8.trans s8) ?_
   rw [List.take_add_one,ex,Option.toList_some,List.map_append]
   exact Bears.append ((hR.sb t8 z08).sb s8 z08) (.cons (z27 (p:=i::x.1) hc) .nil)
  ·rw [vl,List.take_length] at hR
   have wl:=hR.length
   rw [List.length_map] at wl
   have hD7:=s7.keep _ _ hD6' nmn
   refine ⟨D,L,_,_,rfl,rfl,hD7,hL7,?_,?_⟩
   ·rw [List.length_append,List.length_singleton]
    have:=z23 (n:=us.length+1+ws.length) (by omega)
    omega
   have t8:=SB.set (ps:=[D]) hD7 (by simp) (.lst (us++[.ref t]++ws))
   refine ⟨((s5.trans s6.nil).trans s7.nil).trans t8,_,_,_,rfl,upd_same,?_⟩
   rw [Gr.aks_take ep,List.map_append]
   show Bears _ _ _ _ (_++([i]::((p.1.2.ak 0).map fun x=>(i::x.1,x.2)).map (·.1)))
   rw [List.map_map,show ∀ A B:List Pl,A++[i]::B=A++[[i]]++B from fun A B=>by simp]
   exact Bears.append (((hb5.sb s6 z08).sb s7 z08).sb t8 z08) (hR.sb t8 z08)
 ·obtain ⟨s2,us,o2,o3,rfl,hD2,hb2⟩:=h2
  rw [bl,List.take_length,<- Gr.ak_ps] at hb2
  exact ⟨_,rfl,q D us H2 (s2.drop hD) hD hD2 hb2⟩
abbrev zm4:List Str:=["book","grove","place","rule","number","kind","held","told","left","changed"]
theorem sc_q43:FnScope zm4 ["book","grove","place","rule","number"] (defScope z63):=⟨rfl,rfl,rfl,by decide +kernel,rfl,by decide +kernel,by decide +kernel⟩
theorem zhd {C_NoPlace C_Book C_NoRule C_NoNumber C_TooGreat:Addr} (B:BI mg) (O_NoPlace:Own K mg "NoPlace" C_NoPlace) (G_q37:GotX P w K mg base "check_kinds" ["book","grove"] (72) (z1k K C_Book)) (G_q82:GotX P w K mg base "tree_at" ["grove","place"] (2) (z2o K C_NoPlace)) (G_q73:GotX P w K mg base "rule_at" ["book","kind","rule"] (6) (z75 K C_Book C_NoRule)) (G_q38:GotX P w K mg base "check_number" ["thing"] (2) (z70 K C_NoNumber)) (G_q79:Got P w K mg base "struck" ["book","grove","place","fresh","number"] (70) (z1v K C_Book 64)) (G_q45:Got P w K mg base "grown" ["rule","number"] (3) (z8n K)) (G_q34:GotX P w K mg base "check_bound" ["grove"] (72) (z40 K C_TooGreat)) (F:Fun K "fallen" "fallen" z63 f fd):FnOk P w K mg base (L2.CX P w) (74) f fd ["book","grove","place","rule","number"] (z1c K C_Book C_NoPlace C_NoRule C_NoNumber C_TooGreat):=by
 refine F.okX sc_q43 (fun vs H Q E h=>?_) (fun cdv A outer s H vs Q E hr h=>?_)
 ·obtain ⟨v,w,x,y,a,b,g,D,xs,os,ro,so,rfl,_⟩:=h
  rfl
 obtain ⟨v,w,x,y,a,b,g,D,xs,os,ro,so,rfl,⟨hv,ok⟩,⟨hw,go,gd,gp,gn⟩,⟨ha,hos⟩,hx,hy,sb,qP,q⟩:=h
 have hun2:=hunT hr
 refine ⟨_,pss_cons (ps_expr (z0p G_q37 (hr.mono (by omega)) rfl (takes_of rfl rfl rfl rfl) (pa_cons (pv 0) (pa_cons (pv 1) pa_nil))))
  (pss_cons (ps_asg (z0p G_q82 (hr.mono (by omega)) rfl (takes_of rfl rfl rfl rfl) (pa_cons (pv 1) (pa_cons (pv 2) pa_nil))) (pg_tup rfl (pgs_cons (pg_name (i:=5) sc_q43.nd rfl (.inl rfl)) (pgs_cons (pg_name (i:=6) sc_q43.nd rfl (.inl rfl)) pgs_nil))))
  (pss_cons (ps_if (pt_truth (pv 6) (by intro _; rfl)) (pss_one (ps_raise rfl (takes_of rfl rfl rfl rfl) (pmk_own PySem.F.excBase_ValueError O_NoPlace.q O_NoPlace.gC O_NoPlace.k (raises_own O_NoPlace.s O_NoPlace.t) rfl))) pss_nil)
  (pss_cons (ps_set (i:=7) sc_q43.nd rfl (.inl rfl) (z0p G_q73 (hr.mono (by omega)) rfl (takes_of rfl rfl rfl rfl) (pa_cons (pv 0) (pa_cons (pv 5) (pa_cons (pv 3) pa_nil)))))
  (pss_cons (ps_expr (z0p G_q38 (hr.mono (by omega)) rfl (takes_of rfl rfl rfl rfl) (pa_cons (pv 4) pa_nil)))
  (pss_cons (ps_asg (z00 G_q79 (hr.mono (by omega)) rfl (pa_cons (pv 0) (pa_cons (pv 1) (pa_cons (pv 2) (pa_cons (z00 G_q45 (hr.mono (by omega)) rfl (pa_cons (pv 7) (pa_cons (pv 4) pa_nil))) (pa_cons (pv 4) pa_nil)))))) (pg_tup rfl (pgs_cons (pg_name (i:=8) sc_q43.nd rfl (.inl rfl)) (pgs_cons (pg_name (i:=9) sc_q43.nd rfl (.inl rfl)) pgs_nil))))
  (pss_cons (ps_expr (z0p G_q34 (hr.mono (by omega)) rfl (takes_of rfl rfl rfl rfl) (pa_cons (pv 8) pa_nil)))
  (pss_one (ps_ret (pe_tup (pa_cons (pv 8) (pa_cons (pv 9) pa_nil))))))))))),?_⟩
 have szl:=sizeLine_eq
 have b8:=ok.len
 refine ⟨_,rfl,_,rfl,v,w,b,g,rfl,hv,hw,by omega,by omega,by omega,gn,fun H1 s1=>?_⟩
 have xsl:=hos.length
 refine ⟨_,rfl,_,rfl,w,g,a,xs,os,rfl,hw.sb s1,s1.sqT ha,hos.sb s1,fun t hne hlk vt H2 s2 ht=>?_,fun hbad H2 s2=>qP (fun pl k e hb=>?_) _ (s1.trans s2)⟩
 case refine_2 =>
  have h1:=Gr.bare_lk "" hb
  rw [<- e] at h1
  rcases hbad with h | h
  ·rw [e] at h
   exact Gr.bare_ne hb (by simpa [plO] using h)
  ·rw [h] at h1; cases h1
 obtain ⟨pl,epl,hbare⟩:=Gr.lk_bare hne hlk
 cases (ht:Dp K H2 vt (.tuple [.str t.1,t.2.enc])) with
 | @tup ad us' _ hs' hda =>
 cases hda with
 | cons g1 hda =>
 cases hda with
 | cons g2 hda =>
 cases hda
 cases g1
 rename_i hd
 have hheld:GA K H2 hd t.2:=g2
 obtain ⟨ga,gs,rfl,hga,hgb⟩:=z0i hheld
 have gsl:=hgb.length
 have s12:=s1.trans s2
 refine ⟨ad,_,rfl,hs',rfl,_,_,rfl,_,_,rfl,rfl,?_⟩
 by_cases hnil:t.2=.nil
 case neg =>
  have hgs:gs ≠ []:=fun z=>by
   rw [z] at gsl
   cases e:t.2 with
   | nil=>exact hnil e
   | cons _ _ _ _=>rw [e] at gsl; simp [Gr.ps] at gsl
  refine ⟨_,rfl,true,.inr (.inl ⟨gs,hga,by cases gs with | nil=>exact absurd rfl hgs | cons _ _=>rfl⟩),iteT (qP (fun pl' k e hb=>?_) _ s12)⟩
  have h1:=Gr.bare_lk "" hb
  rw [<- e,hlk] at h1
  exact hnil (by rw [Option.some.inj h1])
 have hb:=hbare hnil
 have hgs:gs=[]:=by
  rw [hnil] at gsl
  exact List.length_eq_zero_iff.mp gsl
 subst hgs
 refine ⟨_,rfl,false,.inr (.inl ⟨[],hga,rfl⟩),iteF ?_⟩
 have kn:=Gr.bare_named gn hb
 obtain ⟨kd,eg⟩:=Bk.get_of kn
 obtain ⟨km,_⟩:=Bk.get_some eg
 obtain ⟨_,r4,rr⟩:=ok.kd kd km
 obtain ⟨q1,q2⟩:=q pl t.1 kd epl hb eg
 refine ⟨_,rfl,_,rfl,_,rfl,v,x,b,t.1,kd,ro,rfl,hv.sb0 s12,ok,eg,hx.sb s12,fun i r er hr yv H3 s3 hyr=>?_,fun hno H3 s3=>q1 hno _ (s12.trans s3)⟩
 obtain ⟨q3,q4⟩:=q2 i r er hr
 have s13:=s12.trans s3
 refine ⟨_,rfl,y,so,rfl,hy.sb s13,fun ⟨n,en,n0⟩ H4 s4=>?_,fun hneg H4 s4=>q3 hneg _ (s13.trans s4)⟩
 subst en
 have ey:=hy.int
 subst ey
 obtain ⟨q5,q6⟩:=q4 n rfl n0
 have s14:=s13.trans s4
 have rok:=za6 (fun r hr=>(rr r hr).1) hr
 have nb:=sb n rfl
 subst epl
 have exs:=hos.ints
 subst exs
 refine ⟨_,rfl,_,rfl,_,rfl,_,rfl,_,rfl,yv,r,n,rfl,z01 s4 _ _ (Ru.noList_enc _) hyr,rok,n0,nb,fun fv H5 s5 hf=>?_⟩
 have s15:=s14.trans s5
 have plen:=Gr.bare_len hb
 have go2:=Gr.grw_ok rok n0
 have gd2:=Gr.grw_deep rok n
 have gp2:=Gr.grw_parts rok n
 refine ⟨_,rfl,v,w,fv,a,n,D,1000000001*n+2000000002,b,g,Gr.grw r n,pl,t.1,rfl,⟨hv.sb0 s15,ok⟩,⟨hw.sb s15,go,gd,gp,gn⟩,⟨hf,by omega,go2,gd2,gp2⟩,s15.sqT ha,hb,by omega,n0,fun tt u pt H6 s6 htt hu hpt=>?_⟩
 refine ⟨tt,_,rfl,htt,rfl,_,_,rfl,_,_,rfl,rfl,?_⟩
 have d1:=Gr.stk_deep (b:=b) (n:=n) (fr:=Gr.grw r n) hb
 have p1:=Gr.stk_parts (b:=b) (n:=n) (fr:=Gr.grw r n) hb
 have p2:pl.length*(g.parts+1)<=60*2001:=Nat.mul_le_mul (by omega) (by omega)
 have s16:=s15.trans s6
 refine ⟨_,rfl,u,_,rfl,hu,by omega,by omega,fun hin H7 s7=>?_,fun hout H7 s7=>q5 hout _ (s16.trans s7)⟩
 refine ⟨_,rfl,_,rfl,by show 2<=sizeLine; decide,fun T nT=>?_⟩
 have t8:=SB.new (ps:=[]) nT (.tup [u,pt])
 have s17:=s16.trans s7
 exact q6 hin T u pt _ (s17.trans t8) (s17.dom _ nT) (SqT.of upd_same) ((hu.sb s7).sb t8) (z01 (s7.trans t8) _ _ (z08 _) hpt)
abbrev zkv:List Str:=["book","kind","rule","rows"]
theorem sc_q73:FnScope zkv ["book","kind","rule"] (defScope z5y):=⟨rfl,rfl,rfl,by decide +kernel,rfl,by decide +kernel,by decide +kernel⟩
theorem zj2 {C_NoRule C_Book C_NoKind:Addr} (B:BI mg) (O_NoRule:Own K mg "NoRule" C_NoRule) (G_q74:GotX P w K mg base "rules_from_nought" ["book","name"] (5) (z47 K C_Book C_NoKind)) (G_q55:Got P w K mg base "is_whole" ["thing"] (1) (z2a K)) (F:Fun K "rule_at" "rule_at" z5y f fd):FnOk P w K mg base (L2.CX P w) (6) f fd ["book","kind","rule"] (z75 K C_Book C_NoRule):=by
 refine F.okX sc_q73 (fun vs H Q E h=>?_) (fun cdv A outer s H vs Q E hr h=>?_)
 ·obtain ⟨v,x,b,k,kd,o,rfl,_⟩:=h
  rfl
 obtain ⟨v,x,b,k,kd,o,rfl,hv,ok,eg,hx,q,qE⟩:=h
 have hun2:=hunT hr
 refine ⟨_,pss_cons (ps_set (i:=3) sc_q73.nd rfl (.inl rfl) (z0p G_q74 (hr.mono (by omega)) rfl (takes_of rfl rfl rfl rfl) (pa_cons (pv 0) (pa_cons (pv 1) pa_nil))))
  (pss_cons (ps_if (PW.pt (pw_or (pt_not (pt_val (z00 G_q55 (hr.mono (by omega)) rfl (pa_cons (pv 2) pa_nil)))) (pw_or1 (pt_not (pt_chain op_le op_lt pe_int (pv 2) (pe_callB call_len_seq rfl B.len PySem.boot_len (pa_cons (pv 3) pa_nil))))))) (pss_one (ps_raise rfl (takes_of rfl rfl rfl rfl) (pmk_own PySem.F.excBase_ValueError O_NoRule.q O_NoRule.gC O_NoRule.k (raises_own O_NoRule.s O_NoRule.t) rfl))) pss_nil)
  (pss_one (ps_ret (pe_ix ix_list (pv 3) (pv 2) (fun _ _=>rfl))))),?_⟩
 have szl:=sizeLine_eq
 have r4:∀ k ∈ b,k.rs.length<=4:=fun k hk=>(ok.kd k hk).2.1
 have k4:=r4 kd (Bk.get_some eg).1
 refine ⟨_,rfl,_,rfl,v,b,k,rfl,hv,by have:=ok.len; omega,fun k hk=>by have:=r4 k hk; omega,fun kd' e l us H1 s1 nl hl hb=>?_,fun z=>by rw [eg] at z; cases z⟩
 rw [eg] at e
 cases e
 have ul:=hb.length
 rw [List.length_cons] at ul
 rcases hx with ⟨i,rfl,rfl⟩ | ⟨rfl,n,b1,b2,ty,k1,k2,k3⟩
 ·refine ⟨_,rfl,_,"int",true,false,rfl,.base (.int i),by decide +kernel,fun _=>by decide +kernel,true,rfl,iteF ?_⟩
  refine ⟨_,rfl,_,_,rfl,rfl,_,rfl,?_⟩
  by_cases h0:0<=i
  ·rw [decide_eq_true h0]
   refine iteT ⟨_,rfl,l,us,rfl,.inl (SqL.of hl),_,_,rfl,rfl,_,rfl,?_⟩
   obtain ⟨m,rfl⟩:∃ m:Nat,i=(m:Int):=⟨i.toNat,by omega⟩
   by_cases h1:m < us.length
   ·rw [show decide ((m:Int) < (us.length:Nat))=true from decide_eq_true (by omega)]
    refine iteF ?_
    obtain ⟨y,hy⟩:∃ y,us[m]?=some y:=⟨_,List.getElem?_eq_getElem h1⟩
    obtain ⟨r,er,hr⟩:=hb.get hy
    exact ⟨_,rfl,_,rfl,l,us,_,_,rfl,rfl,SqL.of hl,atI_nat hy,q m r rfl er y H1 s1 hr⟩
   ·rw [show decide ((m:Int) < (us.length:Nat))=false from decide_eq_false (by omega)]
    refine iteT (qE (fun j e=>?_) _ s1)
    have e:(m:Int)=(j:Int):=Option.some.inj e
    exact List.getElem?_eq_none (by rw [List.length_cons]; omega)
  ·rw [decide_eq_false h0]
   refine iteF ⟨_,rfl,iteT (qE (fun j e=>?_) _ s1)⟩
   have e:i=(j:Int):=Option.some.inj e
   omega
 ·refine ⟨_,rfl,x,n,b1,b2,rfl,z2h s1 (fun _ _=>nmn) ty,k1,k2,_,rfl,?_⟩
  rw [k3]
  exact iteT (qE (fun j e=>nomatch e) _ s1)
abbrev zle:List Str:=["thing"]
theorem zhj:FnScope zle ["thing"] (defScope z60):=⟨rfl,rfl,rfl,by decide +kernel,rfl,by decide +kernel,by decide +kernel⟩
theorem zhb {C_NoNumber:Addr} (B:BI mg) (O_NoNumber:Own K mg "NoNumber" C_NoNumber) (G_q55:Got P w K mg base "is_whole" ["thing"] (1) (z2a K)) (F:Fun K "check_number" "check_number" z60 f fd):FnOk P w K mg base (L2.CX P w) (2) f fd ["thing"] (z70 K C_NoNumber):=by
 refine F.okX zhj (fun vs H Q E h=>?_) (fun cdv A outer s H vs Q E hr h=>?_)
 ·obtain ⟨v,o,rfl,_⟩:=h
  rfl
 obtain ⟨v,o,rfl,hv,q1,q2⟩:=h
 have hun2:=hunT hr
 refine ⟨_,pss_one (ps_if (PW.pt (pw_or (pt_not (pt_val (z00 G_q55 (hr.mono (by omega)) rfl (pa_cons (pv 0) pa_nil)))) (pw_or1 (pt_cmpR op_lt (pv 0) pe_int (nomark _))))) (pss_one (ps_raise rfl (takes_of rfl rfl rfl rfl) (pmk_own PySem.F.excBase_ValueError O_NoNumber.q O_NoNumber.gC O_NoNumber.k (raises_own O_NoNumber.s O_NoNumber.t) rfl))) pss_nil),?_⟩
 rcases hv with ⟨i,rfl,rfl⟩ | ⟨rfl,n,b1,b2,ty,k1,k2,k3⟩
 ·refine ⟨_,rfl,_,"int",true,false,rfl,.base (.int i),by decide +kernel,fun _=>by decide +kernel,true,rfl,iteF ?_⟩
  refine ⟨_,rfl,_,_,rfl,rfl,_,rfl,?_⟩
  by_cases h:i < 0
  ·rw [decide_eq_true h]
   exact iteT (q2 (fun n e=>by cases e; exact h) _ SB.refl)
  ·rw [decide_eq_false h]
   exact iteF (q1 ⟨i,rfl,by omega⟩ _ SB.refl)
 ·refine ⟨_,rfl,_,n,b1,b2,rfl,ty,k1,k2,_,rfl,?_⟩
  rw [k3]
  exact iteT (q2 (fun n e=>nomatch e) _ SB.refl)
abbrev zl4:List Str:=["grove"]
theorem zht:FnScope zl4 ["grove"] (defScope z5l):=⟨rfl,rfl,rfl,by decide +kernel,rfl,by decide +kernel,by decide +kernel⟩
theorem zi9 {C_TooGreat:Addr} (B:BI mg) (O_TooGreat:Own K mg "TooGreat" C_TooGreat) (L_MOST_PARTS_STANDING:∃ t,mg "MOST_PARTS_STANDING"=some (.int (2000) t)) (L_MOST_DEEP_STANDING:∃ t,mg "MOST_DEEP_STANDING"=some (.int (60) t)) (G_q68:Got P w K mg base "parts_of" ["grove"] (71) (z4u K 70)) (G_q40:Got P w K mg base "deep_of" ["grove"] (70) (z1m K 70)) (F:Fun K "check_bound" "check_bound" z5l f fd):FnOk P w K mg base (L2.CX P w) (72) f fd ["grove"] (z40 K C_TooGreat):=by
 refine F.okX zht (fun vs H Q E h=>?_) (fun cdv A outer s H vs Q E hr h=>?_)
 ·obtain ⟨v,g,rfl,_⟩:=h
  rfl
 obtain ⟨v,g,rfl,hv,gd,gp,q,qE⟩:=h
 obtain ⟨tk_MOST_PARTS_STANDING,h_MOST_PARTS_STANDING⟩:=L_MOST_PARTS_STANDING
 obtain ⟨tk_MOST_DEEP_STANDING,h_MOST_DEEP_STANDING⟩:=L_MOST_DEEP_STANDING
 have hun2:=hunT hr
 refine ⟨_,pss_one (ps_if (PW.pt (pw_or (pt_cmpR op_gt (z00 G_q68 (hr.mono (by omega)) rfl (pa_cons (pv 0) pa_nil)) (pe_glob (v:=.int (2000)) rfl h_MOST_PARTS_STANDING ⟨_,rfl⟩) (nomark _)) (pw_or1 (pt_cmpR op_gt (z00 G_q40 (hr.mono (by omega)) rfl (pa_cons (pv 0) pa_nil)) (pe_glob (v:=.int (60)) rfl h_MOST_DEEP_STANDING ⟨_,rfl⟩) (nomark _))))) (pss_one (ps_raise rfl (takes_of rfl rfl rfl rfl) (pmk_own PySem.F.excBase_ValueError O_TooGreat.q O_TooGreat.gC O_TooGreat.k (raises_own O_TooGreat.s O_TooGreat.t) rfl))) pss_nil),?_⟩
 refine ⟨_,rfl,v,g,rfl,hv,by omega,gp,fun H1 s1=>?_⟩
 refine ⟨_,_,rfl,rfl,_,rfl,?_⟩
 by_cases h1:g.parts<=2000
 ·rw [show decide ((2000:Int) < (g.parts:Nat))=false from decide_eq_false (by omega)]
  refine iteF ⟨_,rfl,v,g,rfl,hv.sb s1,by omega,gp,fun H2 s2=>?_⟩
  refine ⟨_,_,rfl,rfl,_,rfl,?_⟩
  by_cases h2:g.deep<=60
  ·rw [show decide ((60:Int) < (g.deep:Nat))=false from decide_eq_false (by omega)]
   exact iteF (q ⟨h1,h2⟩ _ (s1.trans s2))
  ·rw [show decide ((60:Int) < (g.deep:Nat))=true from decide_eq_true (by omega)]
   exact iteT (qE (fun z=>h2 z.2) _ (s1.trans s2))
 ·rw [show decide ((2000:Int) < (g.parts:Nat))=true from decide_eq_true (by omega)]
  exact iteT (qE (fun z=>h1 z.1) _ s1)
abbrev zm3:List Str:=["rule","number","once","each"]
theorem sc_q45:FnScope zm3 ["rule","number"] (defScope z6j):=⟨rfl,rfl,rfl,by decide +kernel,rfl,by decide +kernel,by decide +kernel⟩
theorem zhm (B:BI mg) (G_q81:Got P w K mg base "together" ["one","other"] (2) (z21 K)) (G_q80:Got P w K mg base "times" ["grove","many"] (1) (z88 K)) (F:Fun K "grown" "grown" z6j f fd):FnOk P w K mg base CX0 (3) f fd ["rule","number"] (z8n K):=by
 refine F.ok sc_q45 (fun vs H Q E h=>?_) (fun cdv A outer s H vs Q E hr h=>?_)
 ·obtain ⟨v,r,n,rfl,_⟩:=h
  rfl
 obtain ⟨v,r,n,rfl,hv,ok,n0,nb,q⟩:=h
 have hun2:=hunT hr
 refine ⟨_,pss_cons (ps_asg (pv 0) (pg_tup rfl (pgs_cons (pg_name (i:=2) sc_q45.nd rfl (.inl rfl)) (pgs_cons (pg_name (i:=3) sc_q45.nd rfl (.inl rfl)) pgs_nil))))
  (pss_one (ps_ret (z00 G_q81 (hr.mono (by omega)) rfl (pa_cons (pv 2) (pa_cons (z00 G_q80 (hr.mono (by omega)) rfl (pa_cons (pv 3) (pa_cons (pv 1) pa_nil))) pa_nil))))),?_⟩
 have szl:=sizeLine_eq
 cases (hv:Dp K H v (.tuple [r.1.enc,r.2.enc])) with
 | @tup ad us' _ hs' hda =>
 cases hda with
 | cons g1 hda =>
 cases hda with
 | cons g2 hda =>
 cases hda
 rename_i v1 v2
 have h1:GA K H v1 r.1:=g1
 have h2:GA K H v2 r.2:=g2
 obtain ⟨o1,o2,pp⟩:=ok
 have d1:=Gr.deep_parts r.1
 have d2:=Gr.deep_parts r.2
 have l1:=r.1.len_parts
 have l2:=r.2.len_parts
 refine ⟨_,rfl,ad,_,rfl,hs',rfl,_,_,rfl,_,_,rfl,rfl,?_⟩
 refine ⟨_,rfl,_,rfl,_,rfl,v2,r.2,n,rfl,h2,by omega,fun p hp=>?_,n0,?_,fun x H2 s2 hx=>?_⟩
 ·obtain ⟨_,_,a,c⟩:=Gr.ok_mem o2 hp
  exact ⟨by omega,Int.lt_of_lt_of_le c (by decide +kernel)⟩
 ·exact Int.lt_of_lt_of_le nb (by decide +kernel)
 have hm:=Gr.tms_ok o2 (by omega) n0
 have e1:=Gr.tms_len r.2 n
 have e2:=Gr.tms_deep r.2 n
 have le:=Int.mul_nonneg (show (0:Int)<=1000000001 by omega) n0
 exact ⟨_,_,r.1,Gr.tmsG r.2 n,rfl,h1.sb s2,hx,⟨_,o1.mono (C:=1000000001*n+1000000001) (by omega),hm⟩,by omega,by omega,by omega,by omega,fun y H3 s3 hy=>q y H3 (s2.trans s3) hy⟩
abbrev zkg:List Str:=["book","kind","number"]
theorem zhz:FnScope zkg ["book","kind","number"] (defScope z5i):=⟨rfl,rfl,rfl,by decide +kernel,rfl,by decide +kernel,by decide +kernel⟩
theorem zj8 {C_Book C_NoKind:Addr} (B:BI mg) (G_q3:z12 P w K mg base C_Book "spreads" ["self","name"] (4) (z25 K C_Book C_NoKind)) (F:Fun K "further_ones" "further_ones" z5i f fd):FnOk P w K mg base CX0 (5) f fd ["book","kind","number"] (zax K C_Book):=by
 refine F.ok zhz (fun vs H Q E h=>?_) (fun cdv A outer s H vs Q E hr h=>?_)
 ·obtain ⟨v,b,k,n,rfl,_⟩:=h
  rfl
 obtain ⟨v,b,k,n,rfl,hv,bl,hk,q⟩:=h
 have hun2:=hunT hr
 refine ⟨_,pss_cons (ps_if (pt_val (z79 G_q3 (hr.mono (by omega)) (pv 0) (pa_cons (pv 1) pa_nil))) (pss_one (ps_ret (pv 2))) pss_nil)
  (pss_one (ps_ret pe_int)),?_⟩
 obtain ⟨kd,eg⟩:=Bk.get_of hk
 obtain ⟨va,vdx,vd1,vd2,rfl,hva⟩:=hv.at
 refine ⟨_,rfl,va,vdx,_,rfl,hva,rfl,_,rfl,_,b,k,rfl,hv,bl,fun kd' e H1 s1=>?_,fun z=>by rw [eg] at z; cases z⟩
 have hq:=q H1 s1
 unfold Bk.far at hq
 rw [e] at hq
 dsimp only at hq
 refine ⟨_,rfl,?_⟩
 cases hw:kd'.w with
 | true=>rw [hw,if_pos rfl] at hq; exact iteT ⟨_,rfl,hq⟩
 | false=>rw [hw,if_neg (by decide)] at hq; exact iteF hq
abbrev zku:List Str:=["book","grove","place","fresh","number","tree","left","kind","held","inner","path","changed","row"]
theorem sc_q79:FnScope zku ["book","grove","place","fresh","number"] (defScope z6f):=⟨rfl,rfl,rfl,by decide +kernel,rfl,by decide +kernel,by decide +kernel⟩
theorem zcp {C_Book:Addr} {ps:List Str} {k:Nat}:FnOk P w K mg base CX0 k f fd ps (z1v K C_Book 0):=z0o fun vs H Q E ⟨v,w,fv,a,n,D,F,b,g,fr,pl,k,_,_,_,_,_,_,h,_⟩=>by omega
theorem zjo {m:Nat} {C_Book:Addr} (B:BI mg) (G_q83:Got P w K mg base "without" ["grove","tree","many"] (1) (z5a K)) (G_q81:Got P w K mg base "together" ["one","other"] (2) (z21 K)) (G_q79:Got P w K mg base "struck" ["book","grove","place","fresh","number"] (m+6) (z1v K C_Book m)) (G_q44:Got P w K mg base "further_ones" ["book","kind","number"] (5) (zax K C_Book)) (G_q65:Got P w K mg base "number_of" ["grove","tree"] (1) (z8g K)) (F:Fun K "struck" "struck" z6f f fd):FnOk P w K mg base CX0 (m+7) f fd ["book","grove","place","fresh","number"] (z1v K C_Book (m+1)):=by
 refine F.ok sc_q79 (fun vs H Q E h=>?_) (fun cdv A outer s H vs Q E hr h=>?_)
 ·obtain ⟨v,w,fv,a,n,D,F,b,g,fr,pl,k,rfl,_⟩:=h
  rfl
 obtain ⟨v,w,fv,a,n,D,F,b,g,fr,pl,k,rfl,⟨hv,ok⟩,⟨hw,go,gd,gp,gn⟩,⟨hf,F1,fo,fd4,fp4⟩,hpl,hb,hm,n0,q⟩:=h
 have hun2:=hunT hr
 refine ⟨_,pss_cons (ps_set (i:=5) sc_q79.nd rfl (.inl rfl) (pe_ix ix_tup (pe_ix ix_tup (pv 1) (pe_ix ix_tup (pv 2) pe_int (fun _ _=>rfl)) (fun _ _=>rfl)) pe_int (fun _ _=>rfl)))
  (pss_cons (ps_set (i:=6) sc_q79.nd rfl (.inl rfl) (z00 G_q83 (hr.mono (by omega)) rfl (pa_cons (pv 1) (pa_cons (pv 5) (pa_cons pe_int pa_nil)))))
  (pss_cons (ps_if (pt_cmpR op_eq (pe_callB call_len_seq rfl B.len PySem.boot_len (pa_cons (pv 2) pa_nil)) pe_int (nomark _)) (pss_one (ps_ret (pe_tup (pa_cons (z00 G_q81 (hr.mono (by omega)) rfl (pa_cons (pv 6) (pa_cons (pv 3) pa_nil))) (pa_cons (pe_tup pa_nil) pa_nil))))) pss_nil)
  (pss_cons (ps_asg (pv 5) (pg_tup rfl (pgs_cons (pg_name (i:=7) sc_q79.nd rfl (.inl rfl)) (pgs_cons (pg_name (i:=8) sc_q79.nd rfl (.inl rfl)) pgs_nil))))
  (pss_cons (ps_asg (z00 G_q79 (hr.mono (by omega)) rfl (pa_cons (pv 0) (pa_cons (pv 8) (pa_cons (pe_slice zae (pv 2) (po_some pe_int) po_none) (pa_cons (pv 3) (pa_cons (pv 4) pa_nil)))))) (pg_tup rfl (pgs_cons (pg_name (i:=9) sc_q79.nd rfl (.inl rfl)) (pgs_cons (pg_name (i:=10) sc_q79.nd rfl (.inl rfl)) pgs_nil))))
  (pss_cons (ps_set (i:=11) sc_q79.nd rfl (.inl rfl) (pe_tup (pa_cons (pv 7) (pa_cons (pv 9) pa_nil))))
  (pss_cons (ps_set (i:=12) sc_q79.nd rfl (.inl rfl) (z00 G_q81 (hr.mono (by omega)) rfl (pa_cons (pv 6) (pa_cons (pe_tup (pa_cons (pe_tup (pa_cons (pv 11) (pa_cons (pe_op op_add pe_int (z00 G_q44 (hr.mono (by omega)) rfl (pa_cons (pv 0) (pa_cons (pv 7) (pa_cons (pv 4) pa_nil))))) pa_nil))) pa_nil)) pa_nil))))
  (pss_one (ps_ret (pe_tup (pa_cons (pv 12) (pa_cons (pe_op z1p (pe_tup (pa_cons (z00 G_q65 (hr.mono (by omega)) rfl (pa_cons (pv 12) (pa_cons (pv 11) pa_nil))) pa_nil)) (pv 10)) pa_nil))))))))))),?_⟩
 have szl:=sizeLine_eq
 have b8:=ok.len
 obtain ⟨i,r,rfl⟩:∃ i r,pl=i::r:=by
  cases pl with
  | nil=>exact absurd hb (by intro z; cases z)
  | cons i r=>exact ⟨i,r,rfl⟩
 obtain ⟨ga,gs,rfl,hga,hgb⟩:=z0i hw
 have gl:=hgb.length
 have glp:=g.len_parts
 obtain ⟨p,ep⟩:∃ p,g.ps[i]?=some p:=by
  by_cases hr:r=[]
  ·subst hr
   obtain ⟨p,e,_⟩:=Gr.bare_one hb
   exact ⟨p,e⟩
  ·obtain ⟨p,e,_⟩:=Gr.bare_more hr hb
   exact ⟨p,e⟩
 have pm:=List.mem_of_getElem? ep
 obtain ⟨n1,o1,_,_⟩:=Gr.ok_mem go pm
 have pd:=g.mem_deep p pm
 have pp:=g.mem_parts p pm
 obtain ⟨vp,evp,hpd⟩:=hgb.at ep
 obtain ⟨ad,bd,ux,rfl,h1,h2,h3,h4⟩:=z0h hpd
 have plen:=Gr.bare_len hb
 have hC:=Gr.C_pos go pm
 have w1:=Gr.wo_ok go (t:=p.1) (m:=1) (by omega)
 have w2:=Gr.wo_deep g p.1 1
 have w3:=Gr.wo_len g p.1 1
 have frl:=fr.len_parts
 refine ⟨_,rfl,_,rfl,a,_,_,_,rfl,rfl,hpl,atI_nat (j:=0) rfl,ga,gs,_,_,rfl,rfl,hga,atI_nat evp,ad,_,_,_,rfl,rfl,h1,atI_nat (j:=0) rfl,?_⟩
 refine ⟨_,rfl,_,rfl,_,_,g,p.1,1,rfl,hw,h4,⟨D,go,o1⟩,n1,by omega,by omega,by omega,fun left H1 s1 hleft=>?_⟩
 have hpl1:=s1.sqT hpl
 refine ⟨_,rfl,a,_,rfl,.inr hpl1,rfl,_,rfl,?_⟩
 by_cases hr:r=[]
 ·subst hr
  refine iteT ⟨_,rfl,_,rfl,left,fv,Gr.wo g p.1 1,fr,rfl,hleft,hf.sb s1,⟨D+F,w1.mono (by omega),fo.mono (by omega)⟩,by omega,by omega,by omega,by omega,fun x H2 s2 hx=>?_⟩
  refine ⟨by show 0<=sizeLine; decide,fun T nT=>?_⟩
  have t3:=SB.new (ps:=[]) nT (.tup [])
  have hT:SqT K (upd H2 T (.tup [])) T []:=SqT.of upd_same
  generalize upd H2 T (.tup [])=H3 at t3 hT
  refine ⟨by show 2<=sizeLine; decide,fun T2 nT2=>?_⟩
  have t4:=SB.new (ps:=[]) nT2 (.tup [x,.ref T])
  refine q T2 x (.ref T) _ (((s1.trans s2).trans t3).trans t4) (SqT.of upd_same) ?_ ?_
  ·rw [Gr.stk_one ep]; exact hx.sb (t3.trans t4)
  ·rw [Gr.stk_one ep]; exact z27 (p:=[]) (t4.sqT hT)
 have hlen:decide (V.int (((i::r).map fun n:Nat=>V.int (n:Int)).length:Nat)=V.int 1)=false:=by
  have:=List.length_pos_iff.mpr hr
  simp only [List.length_map,List.length_cons,V.int.injEq]
  exact decide_eq_false (by omega)
 rw [hlen]
 obtain ⟨p',ep',hb2⟩:=Gr.bare_more hr hb
 have e:=ep.symm.trans ep'
 cases e
 obtain ⟨kn,pn⟩:=Gr.named_iff.mp gn p pm
 refine iteF ⟨_,rfl,bd,_,rfl,s1.sqT h2,rfl,_,_,rfl,_,_,rfl,rfl,?_⟩
 refine ⟨_,rfl,_,rfl,_,rfl,_,rfl,a,_,rfl,hpl1,fun c H2 s2 hc=>?_⟩
 rw [cut1,List.map_cons,List.drop_succ_cons,List.drop_zero] at hc
 have s02:=s1.trans s2
 rw [List.length_cons] at hm plen
 refine ⟨_,rfl,_,rfl,v,ux,fv,c,n,D,F,b,p.1.2,fr,r,k,rfl,⟨hv.sb0 s02,ok⟩,⟨h3.sb s02,o1,by omega,by omega,pn⟩,⟨hf.sb s02,F1,fo,fd4,fp4⟩,hc,hb2,by omega,n0,fun t u pt H3 s3 ht hu hq=>?_⟩
 obtain ⟨pa,rfl,hpa⟩:=z29 hq
 refine ⟨t,_,rfl,ht,rfl,_,_,rfl,_,_,rfl,rfl,?_⟩
 refine ⟨_,rfl,_,rfl,by show 2<=sizeLine; decide,fun T nT=>?_⟩
 have t4:=SB.new (ps:=[]) nT (.tup [.str p.1.1,u])
 have hT:SqT K (upd H3 T (.tup [.str p.1.1,u])) T [.str p.1.1,u]:=SqT.of upd_same
 generalize upd H3 T (.tup [.str p.1.1,u])=H4 at t4 hT
 have hch:Dp K H4 (.ref T) (Gr.tEnc (Gr.chg b n fr r p)):=.tup hT (.cons (.str _) (.cons (hu.sb t4) .nil))
 have s34:=s3.trans t4
 have s04:=s02.trans s34
 refine ⟨_,rfl,_,rfl,_,rfl,_,rfl,_,rfl,v,b,p.1.1,n,rfl,hv.sb0 s04,by omega,kn,fun H5 s5=>?_⟩
 refine ⟨_,_,rfl,rfl,by show 2<=sizeLine; decide,fun T2 nT2=>?_⟩
 have t6:=SB.new (ps:=[]) nT2 (.tup [.ref T,.int (1+b.far p.1.1 n)])
 have hT2:SqT K (upd H5 T2 (.tup [.ref T,.int (1+b.far p.1.1 n)])) T2 [.ref T,.int (1+b.far p.1.1 n)]:=SqT.of upd_same
 generalize upd H5 T2 (.tup [.ref T,.int (1+b.far p.1.1 n)])=H6 at t6 hT2
 refine ⟨by show 1<=sizeLine; decide,fun T3 nT3=>?_⟩
 have t7:=SB.new (ps:=[]) nT3 (.tup [.ref T2])
 have hT3:SqT K (upd H6 T3 (.tup [.ref T2])) T3 [.ref T2]:=SqT.of upd_same
 generalize upd H6 T3 (.tup [.ref T2])=H7 at t7 hT3
 have s57:=(s5.trans t6).trans t7
 have hone:GA K H7 (.ref T3) (Gr.one (Gr.chg b n fr r p) (1+b.far p.1.1 n)):=z2n (bs:=[(Gr.chg b n fr r p,1+b.far p.1.1 n)]) hT3 (.cons (z1g (t7.sqT hT2) (z01 s57 _ _ (Gr.noList_tEnc _) hch)) .nil)
 obtain ⟨f0,f1⟩:=Bk.far_le b p.1.1 n0
 have io:=Gr.stk_ok (b:=b) n0 F1 fo o1 hb2
 have id:=Gr.stk_deep (b:=b) (n:=n) (fr:=fr) hb2
 have il:=Gr.bare_len hb2
 have cd:(Gr.one (Gr.chg b n fr r p) (1+b.far p.1.1 n)).deep<=63:=by
  show max (1+(Gr.stk b n fr r p.1.2).1.deep) 0<=63
  omega
 have hso:(Gr.one (Gr.chg b n fr r p) (1+b.far p.1.1 n)).Ok (D+F+n+2):=Gr.one_ok (t:=Gr.chg b n fr r p) n1 io (by omega) (by omega)
 refine ⟨left,.ref T3,Gr.wo g p.1 1,Gr.one (Gr.chg b n fr r p) (1+b.far p.1.1 n),rfl,((hleft.sb s2).sb s34).sb s57,hone,⟨_,w1.mono (by omega),hso⟩,by omega,cd,by omega,by rw [Gr.one_ps]; simp,fun row H8 s8 hrow=>?_⟩
 obtain ⟨⟨D2,ro⟩,m2,rm⟩:=Gr.chR_mem (b:=b) n0 F1 fo go hr ep hb
 have rd:(Gr.chR b n fr r g p).deep<=63:=Gr.tgt_deep (by omega) cd
 have rl:(Gr.chR b n fr r g p).ps.length<=5000:=by
  have h1:=z55 (srtE (z0j Gr.tEnc) ((Gr.wo g p.1 1).ps++(Gr.one (Gr.chg b n fr r p) (1+b.far p.1.1 n)).ps))
  rw [(z0r _).length_eq,List.length_append,Gr.one_ps] at h1
  show (Gr.tgt _ _).ps.length<=_
  rw [Gr.tgt_ps,Gr.one_ps]
  unfold tdy
  simp only [List.length_cons,List.length_nil] at h1
  omega
 refine ⟨_,rfl,_,rfl,_,rfl,row,.ref T,Gr.chR b n fr r g p,Gr.chg b n fr r p,m2,rfl,hrow,z01 (s57.trans s8) _ _ (Gr.noList_tEnc _) hch,⟨D2,ro⟩,rd,rl,rm,fun H9 s9=>?_⟩
 refine ⟨by show 1<=sizeLine; decide,fun T4 nT4=>?_⟩
 have t10:=SB.new (ps:=[]) nT4 (.tup [.int (Gr.pos (Gr.chR b n fr r g p) (Gr.chg b n fr r p):Nat)])
 have hT4:SqT K (upd H9 T4 (.tup [.int (Gr.pos (Gr.chR b n fr r g p) (Gr.chg b n fr r p):Nat)])) T4 [.int (Gr.pos (Gr.chR b n fr r g p) (Gr.chg b n fr r p):Nat)]:=SqT.of upd_same
 generalize upd H9 T4 (.tup [.int (Gr.pos (Gr.chR b n fr r g p) (Gr.chg b n fr r p):Nat)])=H10 at t10 hT4
 have s4A:=((s57.trans s8).trans s9).trans t10
 have pl2:=Gr.stk_plen (b:=b) (n:=n) (fr:=fr) hb2
 refine ⟨_,rfl,T4,pa,_,_,rfl,rfl,hT4,(t4.trans s4A).sqT hpa,by rw [List.length_map]; simp only [List.length_cons,List.length_nil]; omega,fun c2 H11 s11 hc2=>?_⟩
 refine ⟨by show 2<=sizeLine; decide,fun T5 nT5=>?_⟩
 have t12:=SB.new (ps:=[]) nT5 (.tup [row,.ref c2])
 refine q T5 row (.ref c2) _ (((s04.trans s4A).trans s11).trans t12) (SqT.of upd_same) ?_ ?_
 ·rw [Gr.stk_more ep hr]
  exact ((((hrow.sb s9).sb t10).sb s11).sb t12)
 ·rw [Gr.stk_more ep hr]
  exact z27 (t12.sqT hc2)
end
section
variable {P:Program} {w:World} {K:PySem.W.Frag} {mg:Str->Option Value} {base:Heap} {f:Addr} {fd:FuncData} {ps:List Addr}
theorem zi3:FnScope ["many"] ["many"] (defScope z6i):=⟨rfl,rfl,rfl,by decide +kernel,rfl,by decide +kernel,by decide +kernel⟩
theorem zjd (F:Fun K "number" "number" z6i f fd):FnOk P w K mg base CX0 1 f fd ["many"] (z7l K):=by
 refine F.ok zi3 (fun vs H Q E h=>?_) (fun cdv A outer s H vs Q E hr h=>?_)
 ·obtain ⟨v,rfl,_⟩:=h
  rfl
 obtain ⟨i,rfl,q⟩:=h
 refine ⟨_,pss_cons (ps_if (pt_cmpR op_eq (pv 0) pe_int (nomark _)) (pss_one (ps_ret (pe_tup pa_nil))) pss_nil)
  (pss_one (ps_ret (pe_tup (pa_cons (pe_tup (pa_cons (pe_tup pa_nil) (pa_cons (pv 0) pa_nil))) pa_nil)))),?_⟩
 refine ⟨_,rfl,rfl,_,rfl,?_⟩
 refine ite2 (fun c=>?_) (fun c=>?_)
 ·have c':V.int i=V.int 0:=of_decide_eq_true c
  injection c' with c'
  subst c'
  refine ⟨(by show 0<=sizeLine; decide),fun p hp=>?_⟩
  exact q _ _ (SB.new hp _) (z7u (SqT.of upd_same))
 ·have c':¬ V.int i=V.int 0:=of_decide_eq_false (Bool.eq_false_iff.mpr c)
  have c2:¬ i=0:=fun z=>c' (by rw [z])
  refine ⟨(by show 0<=sizeLine; decide),fun p1 h1=>?_⟩
  refine ⟨_,rfl,(by show 2<=sizeLine; decide),fun p2 h2=>?_⟩
  refine ⟨(by show 1<=sizeLine; decide),fun p3 h3=>?_⟩
  have e1:SB [] H (upd H p1 (.tup [])):=SB.new h1 _
  have e2:=SB.new (ps:=[]) h2 (.tup [.ref p1,.int i])
  have e3:=SB.new (ps:=[]) h3 (.tup [.ref p2])
  refine q _ _ (e1.trans (e2.trans e3)) ?_
  have e:Lad.num i=.cons .nil i .nil:=if_neg c2
  rw [e]
  exact zce (SqT.of upd_same) (e3.sqT (SqT.of upd_same)) ((z7u (SqT.of upd_same)).sb (e2.trans e3))
end
section
variable {P:Program} {w:World} {K:PySem.W.Frag} {mg:Str->Option Value} {base:Heap} {f:Addr} {fd:FuncData} {ps:List Addr}
theorem zi5:FnScope ["one","other"] ["one","other"] (defScope z3m):=⟨rfl,rfl,rfl,by decide +kernel,rfl,by decide +kernel,by decide +kernel⟩
theorem zk3 (F:Fun K "is_less" "is_less" z3m f fd):FnOk P w K mg base CX0 1 f fd ["one","other"] (z3e K):=by
 refine F.ok zi5 (fun vs H Q E h=>?_) (fun cdv A outer s H vs Q E hr h=>?_)
 ·obtain ⟨v,u,l,k,rfl,_⟩:=h
  rfl
 obtain ⟨v,u,l,k,rfl,hv,hu,hd,q⟩:=h
 refine ⟨_,pss_one (ps_ret (pe_cmpR (zc1 (by have:=hr.un; show A.units+3+100 < cLine; have h3:(A.deeper (envOfC "is_less" (defScope z3m) s.heap.objs.size f cdv)).units=A.units+3:=rfl; omega)) (pv 0) (pv 1) (nomark _))),?_⟩
 have:=l.enc_depth
 exact ⟨_,rfl,_,rfl,l.enc,k.enc,hv,hu,l.alike_enc k,l.enc_ne,by omega,q⟩
end
section
variable {P:Program} {w:World} {K:PySem.W.Frag} {mg:Str->Option Value} {base:Heap} {f:Addr} {fd:FuncData}
abbrev zfd:List Str:=["one","other","exponent","many","kept","alike","pair"]
theorem sc_q32:FnScope zfd ["one","other"] (defScope z3q):=⟨rfl,rfl,rfl,by decide +kernel,rfl,by decide +kernel,by decide +kernel⟩
theorem zim (B:BI mg) (GL:Got P w K mg base "is_less" ["one","other"] 1 (z3e K)) (GM:Got P w K mg base "many_at" ["pairs","thing"] 1 (z73 K)) (F:Fun K "behind" "behind" z3q f fd):FnOk P w K mg base CX0 2 f fd ["one","other"] (z2f K):=by
 refine F.ok sc_q32 (fun vs H Q E h=>?_) (fun cdv A outer s H vs Q E hr h=>?_)
 ·obtain ⟨v,u,l,k,rfl,_⟩:=h
  rfl
 obtain ⟨v,u,l,k,rfl,hv,hu,hd,hd2,hp,hp2,q⟩:=h
 refine ⟨_,pss_cons (ps_if (pt_not (pt_truth (pv 1) (by intro _; rfl))) (pss_one (ps_ret (pv 0))) pss_nil)
  (pss_cons (ps_asg (pe_ix ix_tup (pv 1) pe_int (fun _ _=>rfl)) (pg_tup rfl (pgs_cons (pg_name (i:=2) sc_q32.nd rfl (.inr rfl)) (pgs_cons (pg_name (i:=3) sc_q32.nd rfl (.inl rfl)) pgs_nil))))
  (pss_cons (ps_set (i:=4) sc_q32.nd rfl (.inl rfl) (pe_callTy call_tuple_of rfl B.tuple boot_tuple (pa_cons
   (pe_lc (own:=[("pair",6)]) (g:=gName 6) (tt:=tB (tCall (z3e K) [] E0 (tCons (tVar 2) (tCons (tOp (rIxT K) (tVar 6) (tC (.int 0))) tNil)))) (te:=tVar 6) rfl sc_q32.nd (pi_tup (pv 0))
    (blkOk_by (N:=zfd) (sc:=defScope z3q) (by decide +kernel))
    (fun _ _ _ _ _=>pg_name (i:=6) sc_q32.nd rfl (.inl rfl))
    (fun _ _ _ _ _=>pts_one (pt_val (z00 GL hr rfl (pa_cons (pv 2) (pa_cons (pe_ix ix_tup (pv 6) pe_int (fun _ _=>rfl)) pa_nil)))))
    (fun _ _ _ _ _=>pv 6)) pa_nil)))
  (pss_cons (ps_set (i:=5) sc_q32.nd rfl (.inl rfl) (z00 GM hr rfl (pa_cons (pv 0) (pa_cons (pv 2) pa_nil))))
  (pss_one (ps_ret (pe_op z1p (pe_op z1p (pv 4) (pe_tup (pa_cons (pe_tup (pa_cons (pv 2) (pa_cons (pe_op op_add (pv 5) (pv 3)) pa_nil))) pa_nil))) (pe_slice zae (pv 1) (po_some pe_int) po_none))))))),?_⟩
 obtain ⟨b,ys,rfl,hsb,hbb⟩:=z0q hu
 refine ⟨_,rfl,_,.inr (.inl ⟨ys,hsb,rfl⟩),?_⟩
 cases k with
 | nil =>
  cases hbb
  refine iteT ?_
  exact ⟨_,rfl,q v H SB.refl hv⟩
 | cons e m r =>
  rw [show (Lad.cons e m r).ps=(e,m)::r.ps from rfl] at hbb
  cases hbb with
  | @cons y0 yr _ _ h0 hbr =>
  refine iteF ?_
  obtain ⟨c,ue,rfl,hsc,hle⟩:=z10 h0
  refine ⟨_,rfl,b,_,_,_,rfl,rfl,hsb,atI_nat (j:=0) rfl,c,_,rfl,hsc,rfl,_,_,rfl,_,_,rfl,rfl,?_⟩
  obtain ⟨a,xs,rfl,hsa,hba⟩:=z0q hv
  have bl:=hba.length
  have lp:=l.len_parts
  rw [<- Lad.ps_length] at lp
  have ed:e.deep < (Lad.cons e m r).deep:=Lad.mem_deep (.cons e m r) (e,m) (mcs ..)
  refine ⟨_,rfl,a,rfl,⟨xs,hsa⟩,fun D hD=>?_⟩
  refine lc_it (walk_tup (xs:=xs)) (fun i H2=>SB [D] H H2/\∃ acc,H2 D=some (.lst acc)/\Bears K H2 Lad.pEnc acc ((l.ps.take i).filter fun p=>e.lt p.1)) ⟨SB.new hD _,[],upd_same,.nil⟩ (fun i H2 hi h2=>(h2.1.drop hD).sqT hsa) (fun i x H2 H' hi h2 y=>?_) (fun H2 h2=>?_)
  ·obtain ⟨s2,acc,hD2,hb2⟩:=h2
   obtain ⟨rfl,ex⟩:=y
   have s2':=s2.drop hD
   obtain ⟨b1,eb,hbd⟩:=hba.get ex
   obtain ⟨ad,ux,rfl,hs2,hla⟩:=z10 hbd
   refine ⟨rfl,?_⟩
   refine ⟨_,rfl,_,rfl,ad,_,_,_,rfl,rfl,s2'.sqT hs2,atI_nat (j:=0) rfl,ue,ux,e,b1.1,rfl,hle.sb s2',hla.sb s2',by omega,_,rfl,?_⟩
   have al:=hb2.length
   have fl:=List.length_filter_le (fun p:Lad × Int=>e.lt p.1) (l.ps.take i)
   rw [List.length_take] at fl
   cases hc:e.lt b1.1 with
   | true =>
    refine iteT ?_
    refine ⟨_,rfl,acc,hD2,z0s (by omega),?_⟩
    have t9:=SB.set (ps:=[D]) hD2 (by simp) (.lst (acc++[.ref ad]))
    refine ⟨s2.trans t9,_,upd_same,?_⟩
    rw [List.take_add_one,eb,List.filter_append]
    refine Bears.append (hb2.sb t9 Lad.pEnc_noList) ?_
    have:([b1]:List (Lad × Int)).filter (fun p=>e.lt p.1)=[b1]:=by simp [hc]
    show Bears K _ Lad.pEnc _ (([b1]:List (Lad × Int)).filter (fun p=>e.lt p.1))
    rw [this]
    exact .cons (z01 t9 _ _ (Lad.pEnc_noList _) (z01 s2' _ _ (Lad.pEnc_noList _) hbd)) .nil
   | false =>
    refine iteF ?_
    refine ⟨s2,acc,hD2,?_⟩
    rw [List.take_add_one,eb,List.filter_append]
    simpa [hc] using hb2
  ·obtain ⟨s2,acc,hD2,hb2⟩:=h2
   rw [bl,List.take_length] at hb2
   have s2':=s2.drop hD
   refine ⟨D,acc,rfl,.inl ⟨SqL.of hD2,fun kt hkt=>?_⟩⟩
   have s3:=SB.new (ps:=[]) hkt (.tup acc)
   have s23:=s2'.trans s3
   refine ⟨_,rfl,_,rfl,_,ue,l,e,rfl,hv.sb s23,hle.sb s23,by omega,by omega,by omega,fun H4 s4=>?_⟩
   refine ⟨_,rfl,_,rfl,_,rfl,_,rfl,_,_,rfl,rfl,(by show 2<=sizeLine; decide),fun t1 ht1=>?_⟩
   have s5:=SB.new (ps:=[]) ht1 (.tup [ue,.int (Lad.sumAt l.ps e+m)])
   refine ⟨(by show 1<=sizeLine; decide),fun t2 ht2=>?_⟩
   have s6:=SB.new (ps:=[]) ht2 (.tup [.ref t1])
   have al:=hb2.length
   have fl:=List.length_filter_le (fun p:Lad × Int=>e.lt p.1) l.ps
   refine ⟨kt,t2,_,_,rfl,rfl,((s4.trans s5).trans s6).sqT (SqT.of upd_same),SqT.of upd_same,by rw [List.length_singleton]; omega,fun c1 H7 s7 hc1=>?_⟩
   have s47:=((s4.trans s5).trans s6).trans s7
   refine ⟨_,rfl,1,rfl,b,_,rfl,(s23.trans s47).sqT hsb,fun c2 H8 s8 hc2=>?_⟩
   have e1:cutV (V.ref c::yr) (some 1) none=yr:=by
    have:=zgv (V.ref c::yr) 1
    exact this
   rw [e1] at hc2
   have rl:=hbr.length
   have rp:=(Lad.cons e m r).len_parts
   have rp2:r.ps.length+1=(Lad.cons e m r).len:=by rw [<- Lad.ps_length]; rfl
   refine ⟨c1,c2,_,_,rfl,rfl,s8.sqT hc1,hc2,by rw [List.length_append,List.length_singleton]; omega,fun c3 H9 s9 hc3=>?_⟩
   refine q _ _ (((s23.trans s47).trans s8).trans s9) ?_
   rw [Lad.bhd_cons]
   refine z4n hc3 ?_
   have z1:SB [] _ H9:=(s3.trans s47).trans (s8.trans s9)
   have z2:SB [] _ H9:=(s6.trans s7).trans (s8.trans s9)
   rw [List.append_assoc]
   refine Bears.append (hb2.sb z1 Lad.pEnc_noList) (.cons ?_ (hbr.sb ((s23.trans s47).trans (s8.trans s9)) Lad.pEnc_noList))
   exact Dp.tup (z2.sqT (SqT.of upd_same)) (.cons (hle.sb (((s23.trans s47).trans s8).trans s9)) (.cons (.int _) .nil))
theorem zhs:FnScope ["one","other"] ["one","other"] (defScope z5n):=⟨rfl,rfl,rfl,by decide +kernel,rfl,by decide +kernel,by decide +kernel⟩
theorem zka (G:Got P w K mg base "all_together" ["some"] 2 (z7t K)) (F:Fun K "both" "both" z5n f fd):FnOk P w K mg base CX0 3 f fd ["one","other"] (z9q K):=by
 refine F.ok zhs (fun vs H Q E h=>?_) (fun cdv A outer s H vs Q E hr h=>?_)
 ·obtain ⟨v,u,l,k,rfl,_⟩:=h
  rfl
 obtain ⟨v,u,l,k,rfl,hv,hu,hd,hd2,hp,hp2,q⟩:=h
 refine ⟨_,pss_one (ps_ret (z00 G hr rfl (pa_cons (pe_lst (pa_cons (pv 0) (pa_cons (pv 1) pa_nil))) pa_nil))),?_⟩
 have lp:=l.len_parts
 have kp:=k.len_parts
 rw [<- Lad.ps_length] at lp kp
 refine ⟨_,rfl,_,rfl,(by show 2<=sizeLine; decide),fun p hp=>?_⟩
 have s1:=SB.new (ps:=[]) hp (.lst [v,u])
 refine ⟨p,_,[l,k],rfl,SqL.of upd_same,.cons (hv.sb s1) (.cons (hu.sb s1) .nil),fun x hx=>?_,by simp; omega,fun x H' s2 hx=>?_⟩
 ·simp at hx
  rcases hx with rfl | rfl <;> assumption
 ·rw [Lad.bths_two] at hx
  exact q _ _ (s1.trans s2) hx
abbrev zbw:List Str:=["some","pairs","ladder","pair"]
theorem sc_q29:FnScope zbw ["some"] (defScope z4o):=⟨rfl,rfl,rfl,by decide +kernel,rfl,by decide +kernel,by decide +kernel⟩
theorem zk9 (B:BI mg) (G:Got P w K mg base "joined" ["pairs"] 1 (z7a K Lad.enc)) (F:Fun K "all_together" "all_together" z4o f fd):FnOk P w K mg base CX0 2 f fd ["some"] (z7t K):=by
 refine F.ok sc_q29 (fun vs H Q E h=>?_) (fun cdv A outer s H vs Q E hr h=>?_)
 ·obtain ⟨a,xs,ls,rfl,_⟩:=h
  rfl
 obtain ⟨a,xs,ls,rfl,hs,hb,hd,hn,q⟩:=h
 have hun2:=hunT hr
 refine ⟨_,pss_cons (ps_setLc2 (i:=1) (own:=[("ladder",2),("pair",3)]) (vs1:=[3]) (wi1:=iTup K (tVar 2)) (g:=gName 2) (g1:=gName 3) (tt:=tYes) (tt1:=tYes) (te:=tVar 3) rfl sc_q29.nd rfl rfl (sw_true rfl rfl rfl (by decide +kernel)) (pi_list (pv 0))
   (blkOk_by (N:=zbw) (sc:=defScope z4o) (by decide +kernel)) (by simp)
   (fun _ _ _ _ _=>pg_name (i:=2) sc_q29.nd rfl (.inl rfl)) (fun _ _ _ _ _=>pts_nil)
   (fun _ _ _ _ _=>pi_tup (pv 2)) (fun _ _ _ _ _=>pg_name (i:=3) sc_q29.nd rfl (.inl rfl)) (fun _ _ _ _ _=>pts_nil) (fun _ _ _ _ _=>pv 3))
  (pss_one (ps_ret (z00 G hr rfl (pa_cons (pe_callBK (z9w Lad.pEnc (b:=true) (by show A.units+3+110 < cLine; omega)) rfl B.sorted (by decide +kernel) (pa_cons (pv 1) pa_nil) (pk_cons pe_bl pk_nil)) pa_nil)))),?_⟩
 have xl:=hb.length
 refine ⟨_,rfl,a,rfl,⟨xs,hs⟩,fun D hD=>?_⟩
 refine lcG (walk_list (xs:=xs)) (fun i H2=>SB [D] H H2/\∃ acc,H2 D=some (.lst acc)/\Bears K H Lad.pEnc acc ((ls.take i).flatMap Lad.ps)) ⟨SB.new hD _,[],upd_same,.nil⟩ (fun i H2 hi h2=>(h2.1.drop hD).sqL nmn hs) (fun i x H2 H' hi h2 y=>?_) (fun H2 h2=>?_)
 ·obtain ⟨s2,acc,hD2,hacc⟩:=h2
  obtain ⟨rfl,ex⟩:=y
  obtain ⟨l,el,hl⟩:=hb.get ex
  obtain ⟨c,ys,rfl,hsc,hbc⟩:=z0q hl
  have yl:=hbc.length
  refine ⟨rfl,?_⟩
  refine ⟨_,rfl,c,rfl,⟨ys,(s2.drop hD).sqT hsc⟩,?_⟩
  have hsplit:(ls.take (i+1)).flatMap Lad.ps=(ls.take i).flatMap Lad.ps++l.ps:=by rw [List.take_add_one,el]; simp
  have hle:((ls.take (i+1)).flatMap Lad.ps).length<=1900000:=by
   have h1:ls.flatMap Lad.ps=(ls.take (i+1)).flatMap Lad.ps++(ls.drop (i+1)).flatMap Lad.ps:=by rw [<- List.flatMap_append,List.take_append_drop]
   rw [h1,List.length_append] at hn
   omega
  refine lcG (walk_tup (xs:=ys)) (fun j H3=>SB [D] H H3/\∃ acc,H3 D=some (.lst acc)/\Bears K H Lad.pEnc acc ((ls.take i).flatMap Lad.ps++l.ps.take j)) ⟨s2,acc,hD2,by simpa using hacc⟩ (fun j H3 hj h3=>(h3.1.drop hD).sqT hsc) (fun j x H3 H4 hj h3 y=>?_) (fun H3 h3=>?_)
  ·obtain ⟨s3,acc3,hD3,hacc3⟩:=h3
   obtain ⟨rfl,ex⟩:=y
   obtain ⟨p,ep,hp⟩:=hbc.get ex
   refine ⟨rfl,?_⟩
   refine ⟨_,rfl,acc3,hD3,?_,s3.trans (SB.set hD3 (by simp) _),_,upd_same,?_⟩
   ·rw [hacc3.length]
    rw [hsplit] at hle
    refine z0s ?_
    rw [List.length_append,List.length_take] at *
    omega
   ·rw [List.take_add_one,ep,<- List.append_assoc]
    exact Bears.append hacc3 (.cons hp .nil)
  ·obtain ⟨s3,acc3,hD3,hacc3⟩:=h3
   refine ⟨s3,acc3,hD3,?_⟩
   rw [hsplit]
   rw [yl,List.take_length] at hacc3
   exact hacc3
 ·obtain ⟨s2,acc,hD2,hacc⟩:=h2
  rw [xl,List.take_length] at hacc
  have s2':=s2.drop hD
  refine ⟨_,rfl,rfl,D,_,ls.flatMap Lad.ps,rfl,SqL.of hD2,hacc.sb s2' Lad.pEnc_noList,Lad.pEnc_all _,Lad.pEnc_sortable _,by omega,fun p hp=>?_,fun p zs hp hz=>?_⟩
  ·have:=Lad.pEnc_depth p
   obtain ⟨l,hl,hp⟩:=List.mem_flatMap.mp hp
   have:=hd l hl
   have:=l.mem_deep p hp
   omega
  have s3:=SB.new (ps:=[]) hp (.lst zs)
  refine ⟨p,zs,Lad.dsc (ls.flatMap Lad.ps),rfl,SqL.of upd_same,hz.sb s3 Lad.pEnc_noList,?_,fun b hb=>?_,fun c2 ws H3 s4 hc2 hb3=>?_⟩
  ·rw [(Lad.dsc_perm _).length_eq]; omega
  ·refine Lad.shaped_enc ?_
   obtain ⟨l,hl,hp⟩:=List.mem_flatMap.mp ((Lad.dsc_perm _).mem_iff.mp hb)
   have:=hd l hl
   have:=l.mem_deep b hp
   omega
  ·exact q _ _ ((s2'.trans s3).trans s4) (z4n hc2 hb3)
abbrev z9i:List Str:=["ladder","many","pair"]
theorem sc_q63:FnScope z9i ["ladder","many"] (defScope z49):=⟨rfl,rfl,rfl,by decide +kernel,rfl,by decide +kernel,by decide +kernel⟩
theorem zju (B:BI mg) (F:Fun K "many_of" "many_of" z49 f fd):FnOk P w K mg base CX0 1 f fd ["ladder","many"] (z2t K):=by
 refine F.ok sc_q63 (fun vs H Q E h=>?_) (fun cdv A outer s H vs Q E hr h=>?_)
 ·obtain ⟨v,l,m,rfl,_⟩:=h
  rfl
 obtain ⟨v,l,m,rfl,hv,hp,hsz,hm0,hm1,q⟩:=h
 refine ⟨_,pss_cons (ps_if (pt_cmpR op_eq (pv 1) pe_int (nomark _)) (pss_one (ps_ret (pe_tup pa_nil))) pss_nil)
  (pss_one (ps_ret (pe_callTy call_tuple_of rfl B.tuple boot_tuple (pa_cons
   (pe_lc (own:=[("pair",2)]) (g:=gName 2) (tt:=tYes) (te:=tTup (tCons (tOp (rIxT K) (tVar 2) (tC (.int 0))) (tCons (tOp (rI CMulW fun i j=>.int (i*j)) (tOp (rIxT K) (tVar 2) (tC (.int 1))) (tVar 1)) tNil))) rfl sc_q63.nd (pi_tup (pv 0))
    (blkOk_by (N:=z9i) (sc:=defScope z49) (by decide +kernel))
    (fun _ _ _ _ _=>pg_name (i:=2) sc_q63.nd rfl (.inl rfl))
    (fun _ _ _ _ _=>pts_nil)
    (fun _ _ _ _ _=>pe_tup (pa_cons (pe_ix ix_tup (pv 2) pe_int (fun _ _=>rfl)) (pa_cons (pe_op op_mulW (pe_ix ix_tup (pv 2) pe_int (fun _ _=>rfl)) (pv 1)) pa_nil)))) pa_nil)))),?_⟩
 refine ⟨_,rfl,rfl,_,rfl,?_⟩
 refine ite2 (fun c=>?_) (fun c=>?_)
 ·have c':V.int m=V.int 0:=of_decide_eq_true c
  injection c' with c'
  refine ⟨(by show 0<=sizeLine; decide),fun t ht=>?_⟩
  have e:l.tms m=.nil:=if_pos c'
  exact q _ _ (SB.new ht _) (by rw [e]; exact z7u (SqT.of upd_same))
 ·have c':¬ V.int m=V.int 0:=of_decide_eq_false (Bool.eq_false_iff.mpr c)
  have c2:¬ m=0:=fun z=>c' (by rw [z])
  have e:l.tms m=Lad.ofPs (l.ps.map fun p=>(p.1,p.2*m)):=if_neg c2
  obtain ⟨a,xs,rfl,hsa,hba⟩:=z0q hv
  have xl:=hba.length
  have lp:=l.len_parts
  rw [<- Lad.ps_length] at lp
  refine ⟨_,rfl,a,rfl,⟨xs,hsa⟩,fun D hD=>?_⟩
  refine lc_it (walk_tup (xs:=xs)) (fun i H2=>SB [D] H H2/\∃ acc,H2 D=some (.lst acc)/\Bears K H2 Lad.pEnc acc ((l.ps.take i).map fun p=>(p.1,p.2*m))) ⟨SB.new hD _,[],upd_same,.nil⟩ (fun i H2 hi h2=>(h2.1.drop hD).sqT hsa) (fun i x H2 H' hi h2 y=>?_) (fun H2 h2=>?_)
  ·obtain ⟨s2,acc,hD2,hb2⟩:=h2
   obtain ⟨rfl,ex⟩:=y
   have s2':=s2.drop hD
   obtain ⟨b1,eb,hbd⟩:=hba.get ex
   obtain ⟨ad,ux,rfl,hs2,hla⟩:=z10 hbd
   have bz:=hsz b1 (List.mem_of_getElem? eb)
   have al:=hb2.length
   rw [List.length_map,List.length_take] at al
   refine ⟨rfl,?_⟩
   refine ⟨_,rfl,ad,_,_,_,rfl,rfl,s2'.sqT hs2,atI_nat (j:=0) rfl,_,rfl,ad,_,_,_,rfl,rfl,s2'.sqT hs2,atI_nat (j:=1) rfl,_,rfl,_,_,rfl,rfl,wide_mul (a:=400000) (b:=400000) (by omega) (by omega) (by decide) (by decide) (by decide),(by show 2<=sizeLine; decide),fun t ht=>?_⟩
   have t3:=SB.new (ps:=[D]) ht (.tup [ux,.int (b1.2*m)])
   have hD3:(upd H' t (.tup [ux,.int (b1.2*m)])) D=some (.lst acc):=by rw [upd_ne (ne_of_none hD2 ht)]; exact hD2
   refine ⟨acc,hD3,z0s (by omega),?_⟩
   have t4:=SB.set (ps:=[D]) hD3 (by simp) (.lst (acc++[.ref t]))
   refine ⟨(s2.trans t3).trans t4,_,upd_same,?_⟩
   rw [List.take_add_one,eb,List.map_append]
   exact Bears.append ((hb2.sb t3 Lad.pEnc_noList).sb t4 Lad.pEnc_noList) (.cons (Dp.tup (t4.sqT (SqT.of upd_same)) (.cons (((hla.sb s2').sb t3).sb t4) (.cons (.int _) .nil))) .nil)
  ·obtain ⟨s2,acc,hD2,hb2⟩:=h2
   rw [xl,List.take_length] at hb2
   refine ⟨D,acc,rfl,.inl ⟨SqL.of hD2,fun t ht=>?_⟩⟩
   have t3:=SB.new (ps:=[]) ht (.tup acc)
   refine q _ _ ((s2.drop hD).trans t3) ?_
   rw [e]
   exact z4n (SqT.of upd_same) (hb2.sb t3 Lad.pEnc_noList)
theorem zj5:FnScope ["ladder"] ["ladder"] (defScope z5o):=⟨rfl,rfl,rfl,by decide +kernel,rfl,by decide +kernel,by decide +kernel⟩
theorem zis (F:Fun K "power" "power" z5o f fd):FnOk P w K mg base CX0 1 f fd ["ladder"] (z5m K):=by
 refine F.ok zj5 (fun vs H Q E h=>?_) (fun cdv A outer s H vs Q E hr h=>?_)
 ·obtain ⟨v,l,rfl,_⟩:=h
  rfl
 obtain ⟨v,l,rfl,hv,q⟩:=h
 refine ⟨_,pss_one (ps_ret (pe_tup (pa_cons (pe_tup (pa_cons (pv 0) (pa_cons pe_int pa_nil))) pa_nil))),?_⟩
 refine ⟨_,rfl,(by show 2<=sizeLine; decide),fun p1 h1=>?_⟩
 refine ⟨(by show 1<=sizeLine; decide),fun p2 h2=>?_⟩
 have e1:=SB.new (ps:=[]) h1 (.tup [v,.int 1])
 have e2:=SB.new (ps:=[]) h2 (.tup [.ref p1])
 exact q _ _ (e1.trans e2) (zce (SqT.of upd_same) (e2.sqT (SqT.of upd_same)) ((hv.sb e1).sb e2))
abbrev zfw:List Str:=["one","other","exponent","kept","pair"]
theorem sc_q27:FnScope zfw ["one","other"] (defScope z48):=⟨rfl,rfl,rfl,by decide +kernel,rfl,by decide +kernel,by decide +kernel⟩
theorem zi0 (B:BI mg) (GL:Got P w K mg base "is_less" ["one","other"] 1 (z3e K)) (GN:Got P w K mg base "number" ["many"] 1 (z7l K)) (GW:Got P w K mg base "power" ["ladder"] 1 (z5m K)) (GH:Got P w K mg base "behind" ["one","other"] 2 (z2f K)) (GB:Got P w K mg base "both" ["one","other"] 3 (z9q K)) (F:Fun K "above" "above" z48 f fd):FnOk P w K mg base CX0 4 f fd ["one","other"] (z8m K):=by
 refine F.ok sc_q27 (fun vs H Q E h=>?_) (fun cdv A outer s H vs Q E hr h=>?_)
 ·obtain ⟨v,u,l,k,rfl,_⟩:=h
  rfl
 obtain ⟨v,u,l,k,rfl,hv,hu,hd,hd2,hp,hp2,q⟩:=h
 have hr1:=hr.mono (j:=1) (by decide)
 have hr2:=hr.mono (j:=2) (by decide)
 refine ⟨_,pss_cons (ps_if (pt_not (pt_truth (pv 1) (by intro _; rfl))) (pss_one (ps_ret (z00 GB hr rfl (pa_cons (pv 0) (pa_cons (z00 GN hr1 rfl (pa_cons pe_int pa_nil)) pa_nil))))) pss_nil)
  (pss_cons (ps_set (i:=2) sc_q27.nd rfl (.inr rfl) (pe_ix ix_tup (pe_ix ix_tup (pv 1) pe_int (fun _ _=>rfl)) pe_int (fun _ _=>rfl)))
  (pss_cons (ps_set (i:=3) sc_q27.nd rfl (.inl rfl) (pe_callTy call_tuple_of rfl B.tuple boot_tuple (pa_cons
   (pe_lc (own:=[("pair",4)]) (g:=gName 4) (tt:=tB (tCall (z3e K) [] E0 (tCons (tVar 2) (tCons (tOp (rIxT K) (tVar 4) (tC (.int 0))) tNil)))) (te:=tVar 4) rfl sc_q27.nd (pi_tup (pv 0))
    (blkOk_by (N:=zfw) (sc:=defScope z48) (by decide +kernel))
    (fun _ _ _ _ _=>pg_name (i:=4) sc_q27.nd rfl (.inl rfl))
    (fun _ _ _ _ _=>pts_one (pt_val (z00 GL hr1 rfl (pa_cons (pv 2) (pa_cons (pe_ix ix_tup (pv 4) pe_int (fun _ _=>rfl)) pa_nil)))))
    (fun _ _ _ _ _=>pv 4)) pa_nil)))
  (pss_one (ps_ret (z00 GB hr rfl (pa_cons (pv 3) (pa_cons (z00 GW hr1 rfl (pa_cons (z00 GH hr2 rfl (pa_cons (pv 2) (pa_cons (z00 GN hr1 rfl (pa_cons pe_int pa_nil)) pa_nil))) pa_nil)) pa_nil))))))),?_⟩
 obtain ⟨b,ys,rfl,hsb,hbb⟩:=z0q hu
 refine ⟨_,rfl,_,.inr (.inl ⟨ys,hsb,rfl⟩),?_⟩
 cases k with
 | nil =>
  cases hbb
  refine iteT ?_
  refine ⟨_,rfl,1,rfl,fun n1 H1 s1 hn1=>?_⟩
  rw [Lad.num_one] at hn1
  exact ⟨v,n1,l,Lad.uno,rfl,hv.sb s1,hn1,by omega,by decide,by omega,by decide,fun x H' s2 hx=>q x H' (s1.trans s2) hx⟩
 | cons e m r =>
  rw [show (Lad.cons e m r).ps=(e,m)::r.ps from rfl] at hbb
  cases hbb with
  | @cons y0 yr _ _ h0 hbr =>
  refine iteF ?_
  obtain ⟨c,ue,rfl,hsc,hle⟩:=z10 h0
  refine ⟨_,rfl,b,_,_,_,rfl,rfl,hsb,atI_nat (j:=0) rfl,c,_,_,_,rfl,rfl,hsc,atI_nat (j:=0) rfl,?_⟩
  obtain ⟨a,xs,rfl,hsa,hba⟩:=z0q hv
  have bl:=hba.length
  have lp:=l.len_parts
  rw [<- Lad.ps_length] at lp
  have ed:e.deep < (Lad.cons e m r).deep:=Lad.mem_deep (.cons e m r) (e,m) (mcs ..)
  have ep:e.parts<=(Lad.cons e m r).parts:=by show e.parts<=1+e.parts+r.parts; omega
  refine ⟨_,rfl,a,rfl,⟨xs,hsa⟩,fun D hD=>?_⟩
  refine lc_it (walk_tup (xs:=xs)) (fun i H2=>SB [D] H H2/\∃ acc,H2 D=some (.lst acc)/\Bears K H2 Lad.pEnc acc ((l.ps.take i).filter fun p=>e.lt p.1)) ⟨SB.new hD _,[],upd_same,.nil⟩ (fun i H2 hi h2=>(h2.1.drop hD).sqT hsa) (fun i x H2 H' hi h2 y=>?_) (fun H2 h2=>?_)
  ·obtain ⟨s2,acc,hD2,hb2⟩:=h2
   obtain ⟨rfl,ex⟩:=y
   have s2':=s2.drop hD
   obtain ⟨b1,eb,hbd⟩:=hba.get ex
   obtain ⟨ad,ux,rfl,hs2,hla⟩:=z10 hbd
   refine ⟨rfl,?_⟩
   refine ⟨_,rfl,_,rfl,ad,_,_,_,rfl,rfl,s2'.sqT hs2,atI_nat (j:=0) rfl,ue,ux,e,b1.1,rfl,hle.sb s2',hla.sb s2',by omega,_,rfl,?_⟩
   have al:=hb2.length
   have fl:=List.length_filter_le (fun p:Lad × Int=>e.lt p.1) (l.ps.take i)
   rw [List.length_take] at fl
   cases hc:e.lt b1.1 with
   | true =>
    refine iteT ?_
    refine ⟨_,rfl,acc,hD2,z0s (by omega),?_⟩
    have t9:=SB.set (ps:=[D]) hD2 (by simp) (.lst (acc++[.ref ad]))
    refine ⟨s2.trans t9,_,upd_same,?_⟩
    rw [List.take_add_one,eb,List.filter_append]
    refine Bears.append (hb2.sb t9 Lad.pEnc_noList) ?_
    have:([b1]:List (Lad × Int)).filter (fun p=>e.lt p.1)=[b1]:=by simp [hc]
    show Bears K _ Lad.pEnc _ (([b1]:List (Lad × Int)).filter (fun p=>e.lt p.1))
    rw [this]
    exact .cons (z01 t9 _ _ (Lad.pEnc_noList _) (z01 s2' _ _ (Lad.pEnc_noList _) hbd)) .nil
   | false =>
    refine iteF ?_
    refine ⟨s2,acc,hD2,?_⟩
    rw [List.take_add_one,eb,List.filter_append]
    simpa [hc] using hb2
  ·obtain ⟨s2,acc,hD2,hb2⟩:=h2
   rw [bl,List.take_length] at hb2
   have s2':=s2.drop hD
   refine ⟨D,acc,rfl,.inl ⟨SqL.of hD2,fun kt hkt=>?_⟩⟩
   have s3:=SB.new (ps:=[]) hkt (.tup acc)
   have s23:=s2'.trans s3
   have kept:LA K (upd H2 kt (.tup acc)) (.ref kt) (Lad.ofPs (l.ps.filter fun p=>e.lt p.1)):=z4n (SqT.of upd_same) (hb2.sb s3 Lad.pEnc_noList)
   refine ⟨_,rfl,_,rfl,1,rfl,fun n1 H4 s4 hn1=>?_⟩
   rw [Lad.num_one] at hn1
   refine ⟨ue,n1,e,Lad.uno,rfl,(hle.sb s23).sb s4,hn1,by omega,by decide,by omega,by decide,fun x1 H5 s5 hx1=>?_⟩
   refine ⟨x1,_,rfl,hx1,fun x2 H6 s6 hx2=>?_⟩
   have b1:=Lad.bhd_parts e Lad.uno
   have b2:=Lad.bhd_deep (n:=29) (l:=e) (k:=Lad.uno) (by omega) (by decide)
   have b3:=Lad.filter_parts l fun p=>e.lt p.1
   have b4:Lad.uno.parts=1:=rfl
   refine ⟨.ref kt,x2,_,_,rfl,((kept.sb s4).sb s5).sb s6,hx2,Nat.le_trans (Lad.filter_deep _ hd) (by decide),by show max (1+(Lad.bhd e Lad.uno).deep) 0<=30; omega,by omega,by show 1+(Lad.bhd e Lad.uno).parts+0<=800000; omega,fun x H' s7 hx=>?_⟩
   exact q x H' (((s23.trans s4).trans s5).trans (s6.trans s7)) hx
theorem zjy:FnScope ["one","other"] ["one","other"] (defScope z5z):=⟨rfl,rfl,rfl,by decide +kernel,rfl,by decide +kernel,by decide +kernel⟩
theorem zk1 (GW:Got P w K mg base "power" ["ladder"] 1 (z5m K)) (GH:Got P w K mg base "behind" ["one","other"] 2 (z2f K)) (F:Fun K "spread" "spread" z5z f fd):FnOk P w K mg base CX0 3 f fd ["one","other"] (z7b K):=by
 refine F.ok zjy (fun vs H Q E h=>?_) (fun cdv A outer s H vs Q E hr h=>?_)
 ·obtain ⟨v,u,e,m,r,k,rfl,_⟩:=h
  rfl
 obtain ⟨v,u,e,m,r,k,rfl,hv,hu,hd,hd2,hp,hp2,q⟩:=h
 have hr1:=hr.mono (j:=1) (by decide)
 refine ⟨_,pss_cons (ps_if (pt_not (pt_truth (pv 1) (by intro _; rfl))) (pss_one (ps_ret (pv 0))) pss_nil)
  (pss_one (ps_ret (z00 GW hr1 rfl (pa_cons (z00 GH hr rfl (pa_cons (pe_ix ix_tup (pe_ix ix_tup (pv 0) pe_int (fun _ _=>rfl)) pe_int (fun _ _=>rfl)) (pa_cons (pv 1) pa_nil))) pa_nil)))),?_⟩
 obtain ⟨b,ys,rfl,hsb,hbb⟩:=z0q hu
 refine ⟨_,rfl,_,.inr (.inl ⟨ys,hsb,rfl⟩),?_⟩
 cases k with
 | nil =>
  cases hbb
  refine iteT ?_
  exact ⟨_,rfl,q v H SB.refl hv⟩
 | cons e2 m2 r2 =>
  rw [show (Lad.cons e2 m2 r2).ps=(e2,m2)::r2.ps from rfl] at hbb
  cases hbb with
  | @cons y0 yr _ _ h0 hbr =>
  refine iteF ?_
  obtain ⟨a,xs,rfl,hsa,hba⟩:=z0q hv
  rw [show (Lad.cons e m r).ps=(e,m)::r.ps from rfl] at hba
  cases hba with
  | @cons x0 xr _ _ g0 gbr =>
  obtain ⟨c,ue,rfl,hsc,hle⟩:=z10 g0
  have ed:e.deep < (Lad.cons e m r).deep:=Lad.mem_deep (.cons e m r) (e,m) (mcs ..)
  have ep:e.parts<=(Lad.cons e m r).parts:=by show e.parts<=1+e.parts+r.parts; omega
  refine ⟨_,rfl,a,_,_,_,rfl,rfl,hsa,atI_nat (j:=0) rfl,c,_,_,_,rfl,rfl,hsc,atI_nat (j:=0) rfl,_,rfl,ue,_,e,_,rfl,hle,hu,by omega,by omega,by omega,by omega,fun x1 H1 s1 hx1=>?_⟩
  exact ⟨x1,_,rfl,hx1,fun x H' s2 hx=>q x H' (s1.trans s2) hx⟩
abbrev zkw:List Str:=["book","name","found","rule","once","each"]
theorem sc_q78:FnScope zkw ["book","name"] (defScope z5c):=⟨rfl,rfl,rfl,by decide +kernel,rfl,by decide +kernel,by decide +kernel⟩
theorem zhn {C_Book C_NoKind:Addr} (B:BI mg) (G_q2:z12 P w K mg base C_Book "rules" ["self","name"] (4) (z3z K C_Book C_NoKind)) (G_q77:Got P w K mg base "steps_in" ["name","rule","word","grove"] (21) (z54 K)) (F:Fun K "steps_of" "steps_of" z5c f fd):FnOk P w K mg base (L2.CX P w) (22) f fd ["book","name"] (z57 K C_Book C_NoKind):=by
 refine F.okX sc_q78 (fun vs H Q E h=>?_) (fun cdv A outer s H vs Q E hr h=>?_)
 ·obtain ⟨v,b,n,rfl,_⟩:=h
  rfl
 obtain ⟨v,b,n,rfl,hv,ok,qk,qE⟩:=h
 have hun2:=hunT hr
 refine ⟨_,pss_cons (ps_set (i:=2) sc_q78.nd rfl (.inl rfl) (pe_lst pa_nil))
  (pss_cons (ps_for (passes_of rfl) rfl (zcz rfl B.enumerate (z9j G_q2 (hr.mono (by omega)) (takes_of rfl rfl rfl rfl) (pv 0) (pa_cons (pv 1) pa_nil))) (pg_tup rfl (pgs_cons (pg_name (i:=3) sc_q78.nd rfl (.inl rfl)) (pgs_cons (pg_tup rfl (pgs_cons (pg_name (i:=4) sc_q78.nd rfl (.inl rfl)) (pgs_cons (pg_name (i:=5) sc_q78.nd rfl (.inl rfl)) pgs_nil))) pgs_nil)))
   (pss_cons (ps_expr (pe_bm PySem.F.plainAttrs_list PySem.F.slot_list_extend PySem.F.type_list_extend mt_extend (pv 2) (pa_cons (z00 G_q77 (hr.mono (by omega)) rfl (pa_cons (pv 1) (pa_cons (pv 3) (pa_cons pe_str (pa_cons (pv 4) pa_nil))))) pa_nil)))
  (pss_one (ps_expr (pe_bm PySem.F.plainAttrs_list PySem.F.slot_list_extend PySem.F.type_list_extend mt_extend (pv 2) (pa_cons (z00 G_q77 (hr.mono (by omega)) rfl (pa_cons (pv 1) (pa_cons (pv 3) (pa_cons pe_str (pa_cons (pv 5) pa_nil))))) pa_nil))))))
  (pss_one (ps_ret (pv 2)))),?_⟩
 have szl:=sizeLine_eq
 obtain ⟨va,vdx,vd1,vd2,rfl,hva⟩:=hv.at
 have b8:=ok.len
 have rok:∀ k ∈ b,k.rs.length<=1000:=fun k hk=>by have:=(ok.kd k hk).2.1; omega
 refine ⟨(by show 0<=sizeLine; decide),fun D hD=>?_⟩
 have t1:=SB.new (ps:=[]) hD (.lst [])
 have hD1:upd H D (.lst []) D=some (.lst []):=upd_same
 generalize upd H D (.lst [])=H1 at t1 hD1
 refine ⟨_,rfl,va,vdx,_,rfl,t1.keep _ _ hva nmn,rfl,_,rfl,_,b,n,rfl,hv.sb0 t1,by omega,rok,fun k eg ll us H2 s2 nll hll hbl=>?_,fun z d H' s' nd hd=>qE z d H' (t1.trans s') (Classical.byContradiction fun y=>by
  have:=t1.dom d; exact y (t1.dom d nd)) hd⟩
 obtain ⟨hk,rfl⟩:=Bk.get_some eg
 obtain ⟨kn,r4,rr⟩:=ok.kd k hk
 have ul:=hbl.length
 have lD:ll ≠ D:=fun z=>by rw [z,hD1] at nll; cases nll
 have zl:(k.rs.zipIdx 1).length=k.rs.length:=List.length_zipIdx
 have stl:=Kd.steps_len r4 fun r hr=>(rr r hr).1
 refine ⟨ll,us,rfl,SqL.of hll,?_⟩
 refine for_it (zb5 (xs:=us)) (fun i σ H3=>SB [D] H2 H3/\∃ ws o3 o4 o5,σ=[some (.ref va),some (.str k.n),some (.ref D),o3,o4,o5]/\H3 D=some (.lst ws)/\Bears K H3 Sx.enc ws (((k.rs.zipIdx 1).take i).flatMap (stR k.n))) ⟨SB.refl,[],none,none,none,rfl,s2.keep _ _ hD1 nmn,.nil⟩ (fun i σ H3 hi h3=>h3.1.sqL (by simpa using lD) (SqL.of hll)) (fun i x σ H3 H' hi h3 y=>?_) (fun σ H3 h3=>?_)
 ·obtain ⟨s3,ws,o3,o4,o5,rfl,hD3,hb3⟩:=h3
  obtain ⟨T,e1,e2,rfl,hT,rfl,ee1,ee2⟩:=y
  have he1:e1=.int ((i+1:Nat):Int):=(Option.some.inj ee1).symm
  subst he1
  obtain ⟨r,er,hr1⟩:=hbl.get ee2
  have hr2:=z01 s3 _ _ (Ru.noList_enc r) hr1
  have ro:=(rr r (List.mem_of_getElem? er)).1
  have ez:(k.rs.zipIdx 1)[i]?=some (r,i+1):=by rw [List.getElem?_zipIdx,er,Nat.add_comm]; rfl
  have hsp:((k.rs.zipIdx 1).take (i+1)).flatMap (stR k.n)=((k.rs.zipIdx 1).take i).flatMap (stR k.n)++stG k.n (i+1) "once" r.1++stG k.n (i+1) "each" r.2:=by
   rw [List.take_add_one,ez,List.flatMap_append]
   simp [stR]
  have hlen:(((k.rs.zipIdx 1).take (i+1)).flatMap (stR k.n)).length<=k.steps.length:=by
   show _<=((k.rs.zipIdx 1).flatMap (stR k.n)).length
   conv=>rhs; rw [<- List.take_append_drop (i+1) (k.rs.zipIdx 1),List.flatMap_append,List.length_append]
   omega
  rw [hsp,List.length_append,List.length_append,z2d,z2d] at hlen
  have wl:=hb3.length
  cases (hr2:Dp K H3 e2 (.tuple [r.1.enc,r.2.enc])) with
  | @tup ad us' _ hs' hda =>
  cases hda with
  | cons g1 hda =>
  cases hda with
  | cons g2 hda =>
  cases hda
  rename_i u1 u2
  have t4:=SB.new (ps:=[]) hT (.tup [.int ((i+1:Nat):Int),.ref ad])
  have hT4:SqT K (upd H3 T (.tup [.int ((i+1:Nat):Int),.ref ad])) T [.int ((i+1:Nat):Int),.ref ad]:=SqT.of upd_same
  generalize upd H3 T (.tup [.int ((i+1:Nat):Int),.ref ad])=H4 at t4 hT4
  have hD4:=t4.keep _ _ hD3 nmn
  refine ⟨T,_,rfl,hT4,rfl,_,_,rfl,_,_,rfl,⟨ad,_,rfl,t4.sqT hs',rfl,_,_,rfl,_,_,rfl,rfl,rfl,?_⟩⟩
  have d1:=r.1.deep_parts
  have d2:=r.2.deep_parts
  refine ⟨_,rfl,.inl ⟨rfl,_,SqL.of hD4⟩,_,rfl,_,rfl,_,rfl,k.n,"once",i+1,u1,r.1,rfl,GA.sb g1 t4,by omega,by omega,fun l1 v1 H5 s5 nl1 hl1 hb5=>?_⟩
  have hD5:=s5.keep _ _ hD4 nmn
  have v1l:=hb5.length
  rw [z2d] at v1l
  refine ⟨D,l1,_,_,rfl,rfl,hD5,hl1,by omega,?_⟩
  have t6:=SB.set (ps:=[D]) hD5 (by simp) (.lst (ws++v1))
  have hb6:=Bears.append (((hb3.sb t4 Sx.noList_enc).sb s5 Sx.noList_enc).sb t6 Sx.noList_enc) (hb5.sb t6 Sx.noList_enc)
  have hD6:upd H5 D (.lst (ws++v1)) D=some (.lst (ws++v1)):=upd_same
  have s6:=((s3.trans t4.nil).trans s5.nil).trans t6
  have g2':=GA.sb (GA.sb g2 t4) s5
  have g2':=GA.sb g2' t6
  generalize upd H5 D (.lst (ws++v1))=H6 at t6 hb6 hD6 s6 g2'
  refine ⟨_,rfl,.inl ⟨rfl,_,SqL.of hD6⟩,_,rfl,_,rfl,_,rfl,k.n,"each",i+1,u2,r.2,rfl,g2',by omega,by omega,fun l2 v2 H7 s7 nl2 hl2 hb7=>?_⟩
  have hD7:=s7.keep _ _ hD6 nmn
  have v2l:=hb7.length
  rw [z2d] at v2l
  refine ⟨D,l2,_,_,rfl,rfl,hD7,hl2,by rw [List.length_append]; omega,?_⟩
  have t8:=SB.set (ps:=[D]) hD7 (by simp) (.lst (ws++v1++v2))
  refine ⟨(s6.trans s7.nil).trans t8,_,_,_,_,rfl,upd_same,?_⟩
  rw [hsp]
  exact Bears.append ((hb6.sb s7 Sx.noList_enc).sb t8 Sx.noList_enc) (hb7.sb t8 Sx.noList_enc)
 ·obtain ⟨s3,ws,o3,o4,o5,rfl,hD3,hb3⟩:=h3
  rw [ul,<- zl,List.take_length] at hb3
  exact ⟨_,rfl,qk k eg D ws H3 ((t1.trans s2).nil.trans s3 |>.drop hD) hD hD3 hb3⟩
abbrev zdw:List Str:=["name","rule","word","grove","place"]
theorem sc_q77:FnScope zdw ["name","rule","word","grove"] (defScope z3g):=⟨rfl,rfl,rfl,by decide +kernel,rfl,by decide +kernel,by decide +kernel⟩
theorem zj7 {C_NoPlace:Addr} (B:BI mg) (G_q28:Got P w K mg base "all_places" ["grove"] (20) (z3d K 20)) (G_q82:GotX P w K mg base "tree_at" ["grove","place"] (2) (z2o K C_NoPlace)) (F:Fun K "steps_in" "steps_in" z3g f fd):FnOk P w K mg base CX0 (21) f fd ["name","rule","word","grove"] (z54 K):=by
 refine F.ok sc_q77 (fun vs H Q E h=>?_) (fun cdv A outer s H vs Q E hr h=>?_)
 ·obtain ⟨n,wd,i,v,g,rfl,_⟩:=h
  rfl
 obtain ⟨n,wd,i,v,g,rfl,hv,hd,hp,q⟩:=h
 have hun2:=hunT hr
 refine ⟨_,pss_one (ps_ret (pe_lc (own:=[("place",4)]) (g:=(gName 4)) (tt:=tYes) (te:=(tTup (tCons (tTup (tCons (tVar 0) (tCons (tVar 1) (tCons (tVar 2) (tCons (tVar 4) tNil))))) (tCons (tOp (rIxT K) (tCall (z2o K C_NoPlace) [] E0 (tCons (tVar 3) (tCons (tVar 4) tNil))) (tC (.int 0))) tNil)))) rfl sc_q77.nd (pi_list (z00 G_q28 (hr.mono (by omega)) rfl (pa_cons (pv 3) pa_nil))) (blkOk_by (N:=zdw) (sc:=defScope z3g) (by decide +kernel)) (fun _ _ _ _ _=>(pg_name (i:=4) sc_q77.nd rfl (.inl rfl))) (fun _ _ _ _ _=>pts_nil) (fun _ _ _ _ _=>(pe_tup (pa_cons (pe_tup (pa_cons (pv 0) (pa_cons (pv 1) (pa_cons (pv 2) (pa_cons (pv 4) pa_nil))))) (pa_cons (pe_ix ix_tup (z1u G_q82 (hr.mono (by omega)) rfl (pa_cons (pv 3) (pa_cons (pv 4) pa_nil))) pe_int (fun _ _=>rfl)) pa_nil)))))),?_⟩
 have szl:=sizeLine_eq
 have lenb:=g.ak_len 0
 refine ⟨_,rfl,v,g,rfl,hv,hd,by omega,by omega,fun D us H1 s1 nD hD hb=>?_⟩
 have vl:=hb.length
 rw [List.length_map] at vl
 refine ⟨D,rfl,⟨_,SqL.of hD⟩,fun L hL=>?_⟩
 refine z11 (walk_list (xs:=us)) hL (by omega) (fun j ws H2=>Bears K H2 Sx.enc ws (((g.ak 0).take j).map fun x:Pl × Str=>⟨n,i,wd,x.1,x.2⟩)) .nil (fun H2 s2=>s2.sqL nmn (SqL.of hD)) (fun _ _ _ _ e h=>h.sb e Sx.noList_enc) (fun Pv j z Hq H2 ws hj s2 yz hR hw fin _=>?_) (fun ws H2 s2 hL2 hR hw=>?_)
 ·obtain ⟨rfl,ez⟩:=yz
  obtain ⟨pl,epl,hpl⟩:=hb.get ez
  rw [List.getElem?_map] at epl
  obtain ⟨x,ex,rfl⟩:=Option.map_eq_some_iff.mp epl
  obtain ⟨pa,rfl,hpa⟩:=z29 hpl
  obtain ⟨n1,t,e1,e2⟩:=g.ak_place x (List.mem_of_getElem? ex)
  refine ⟨rfl,?_⟩
  refine ⟨_,rfl,_,rfl,_,rfl,_,rfl,(by show 4<=sizeLine; decide),fun T hT=>?_⟩
  have t3:=SB.new (ps:=[]) hT (.tup [.str n,.int (i:Int),.str wd,.ref pa])
  have s3:=s2.trans t3
  have hT3:SqT K (upd H2 T (.tup [.str n,.int (i:Int),.str wd,.ref pa])) T [.str n,.int (i:Int),.str wd,.ref pa]:=SqT.of upd_same
  generalize upd H2 T (.tup [.str n,.int (i:Int),.str wd,.ref pa])=H3 at t3 s3 hT3
  refine ⟨_,rfl,_,rfl,v,g,pa,_,plO x.1,rfl,hv.sb (s1.trans s3),s3.sqT hpa,Whs.pl K H3 x.1,fun t' _ et X H4 s4 hX=>?_,fun z=>?_⟩
  ·obtain rfl:t'=t:=Option.some.inj (et.symm.trans e1)
   cases (hX:Dp K H4 X (.tuple [.str t'.1,t'.2.enc])) with
   | tup hX1 hX2 =>
   cases hX2 with
   | cons k1 hX2 =>
   cases hX2 with
   | cons k2 hX2 =>
   cases hX2
   cases k1
   refine ⟨_,_,_,_,rfl,rfl,hX1,atI_nat (j:=0) rfl,(by show 2<=sizeLine; decide),fun T2 hT2=>?_⟩
   have t5:=SB.new (ps:=[]) hT2 (.tup [.ref T,.str t'.1])
   have s25:=(t3.trans s4).trans t5
   refine fin _ _ s25 ?_
   rw [List.take_add_one,ex,Option.toList_some,List.map_append]
   refine Bears.append (hR.sb s25 Sx.noList_enc) (.cons ?_ .nil)
   show Dp K _ _ (.tuple [.tuple [.str n,.int (i:Int),.str wd,z0d x.1],.str x.2])
   rw [<- e2]
   exact .tup (SqT.of upd_same) (.cons (.tup ((s4.trans t5).sqT hT3) (.cons (.str _) (.cons (.int _) (.cons (.str _) (.cons (z01 (s2.trans s25) _ _ (z08 _) hpl) .nil))))) (.cons (.str _) .nil))
  ·rcases z with z | z
   ·exact absurd z n1
   ·rw [e1] at z; cases z
 ·rw [vl,List.take_length] at hR
  exact q L ws H2 (s1.trans s2) (s1.dom L hL) hL2 hR
abbrev zew:List Str:=["book","name","step","kind"]
theorem sc_q61:FnScope zew ["book","name"] (defScope z3t):=⟨rfl,rfl,rfl,by decide +kernel,rfl,by decide +kernel,by decide +kernel⟩
theorem zhe {C_Book C_NoKind:Addr} (B:BI mg) (G_q78:GotX P w K mg base "steps_of" ["book","name"] (22) (z57 K C_Book C_NoKind)) (F:Fun K "leads" "leads" z3t f fd):FnOk P w K mg base (L2.CX P w) (23) f fd ["book","name"] (z6b K C_Book C_NoKind):=by
 refine F.okX sc_q61 (fun vs H Q E h=>?_) (fun cdv A outer s H vs Q E hr h=>?_)
 ·obtain ⟨v,b,n,rfl,_⟩:=h
  rfl
 obtain ⟨v,b,n,rfl,hv,ok,qk,qE⟩:=h
 have hun2:=hunT hr
 refine ⟨_,pss_one (ps_ret (pe_callB (z6s rfl) rfl B.sorted (by decide +kernel) (pa_cons (zc7 (own:=[("step",2),("kind",3)]) (g:=(gTup K 2 (gCons (gName 2) (gCons (gName 3) gNil)))) (tt:=tYes) (te:=(tVar 3)) rfl sc_q61.nd (pi_list (z0p G_q78 (hr.mono (by omega)) rfl (takes_of rfl rfl rfl rfl) (pa_cons (pv 0) (pa_cons (pv 1) pa_nil)))) (blkOk_by (N:=zew) (sc:=defScope z3t) (by decide +kernel)) (fun _ _ _ _ _=>(pg_tup rfl (pgs_cons (pg_name (i:=2) sc_q61.nd rfl (.inl rfl)) (pgs_cons (pg_name (i:=3) sc_q61.nd rfl (.inl rfl)) pgs_nil)))) (fun _ _ _ _ _=>pts_nil) (fun _ _ _ _ _=>(pv 3))) pa_nil))),?_⟩
 have scb:1000 < scanBound:=by decide +kernel
 refine ⟨_,rfl,_,rfl,v,b,n,rfl,hv,ok,fun k eg ll us H1 s1 nll hll hbl=>?_,fun z d H' s' nd hd=>qE z d H' s' nd hd⟩
 obtain ⟨hk,rfl⟩:=Bk.get_some eg
 obtain ⟨kn,r4,rr⟩:=ok.kd k hk
 have stl:=Kd.steps_len r4 fun r hr=>(rr r hr).1
 have ul:=hbl.length
 refine ⟨ll,rfl,⟨_,SqL.of hll⟩,fun D nD=>?_⟩
 refine zc6 (walk_list (xs:=us)) nD (by omega) (fun i ss H2=>ss.Nodup/\∀ x,x ∈ ss ↔ x ∈ (k.steps.take i).map Sx.k) ⟨List.nodup_nil,by simp⟩ (fun H2 s2=>s2.sqL nmn (SqL.of hll)) (fun _ _ _ _ _ h=>h) (fun Pv i x Hq H2 ss hi s2 y hR hl fin _=>?_) (fun ss H2 s2 hD2 hR hl=>?_)
 ·obtain ⟨rfl,ey⟩:=y
  obtain ⟨st,es,hst⟩:=hbl.get ey
  cases (hst:Dp K H1 x (.tuple [st.st,.str st.k])) with
  | @tup ad us' _ hs' hda =>
  cases hda with
  | cons g1 hda =>
  cases hda with
  | cons g2 hda =>
  cases hda
  cases g2
  refine ⟨ad,_,rfl,s2.sqT hs',rfl,_,_,rfl,_,_,rfl,rfl,rfl,?_⟩
  refine ⟨_,rfl,fin st.k _ SB.refl ⟨z82 hR.1,fun x=>?_⟩⟩
  rw [z9n,hR.2,List.take_add_one,es,List.map_append,List.mem_append]
  simp [or_comm]
 ·rw [ul,List.take_length,Kd.steps_kinds] at hR
  refine ⟨D,ss,rfl,hD2,by omega,fun ss' p pm srt np=>?_⟩
  have t3:=SB.new (ps:=[]) np (.lst (ss'.map V.str))
  exact qk k eg p ss' _ ((s1.trans s2).trans t3) ((s1.trans s2).dom _ np) upd_same (SrtOf.perm pm srt hR.1 hR.2)
abbrev zg2:List Str:=["book","led","ending","fresh","name"]
theorem sc_q41:FnScope zg2 ["book"] (defScope z4e):=⟨rfl,rfl,rfl,by decide +kernel,rfl,by decide +kernel,by decide +kernel⟩
theorem zi7 {C_Book C_NoKind:Addr} (B:BI mg) (G_q1:GotM P w K mg base C_Book "names" ["self"] (1) (z2q K C_Book)) (G_q61:GotX P w K mg base "leads" ["book","name"] (23) (z6b K C_Book C_NoKind)) (G_q60:Got P w K mg base "lead_into" ["led","ending"] (1) (z4g K)) (F:Fun K "ending_kinds" "ending_kinds" z4e f fd):FnOk P w K mg base CX0 (24) f fd ["book"] (z2w K C_Book C_NoKind):=by
 refine F.ok sc_q41 (fun vs H Q E h=>?_) (fun cdv A outer s H vs Q E hr h=>?_)
 ·obtain ⟨v,b,rfl,_⟩:=h
  rfl
 obtain ⟨v,b,rfl,hv,ok,q⟩:=h
 have hun2:=hunT hr
 refine ⟨_,pss_cons (zdn (i:=1) (own:=[("name",4)]) (g:=(gName 4)) (tt:=tYes) (tk:=(tVar 4)) (tv:=(tCall (z6b K C_Book C_NoKind) [] E0 (tCons (tVar 0) (tCons (tVar 4) tNil)))) rfl sc_q41.nd rfl rfl (zck rfl rfl rfl (by decide +kernel)) (pi_list (z13 G_q1 (hr.mono (by omega)) (pv 0))) (blkOk_by (N:=zg2) (sc:=defScope z4e) (by decide +kernel)) (fun _ _ _ _ _=>(pg_name (i:=4) sc_q41.nd rfl (.inl rfl))) (fun _ _ _ _ _=>pts_nil) (fun _ _ _ _ _=>(pv 4)) (fun _ _ _ _ _=>(z1u G_q61 (hr.mono (by omega)) rfl (pa_cons (pv 0) (pa_cons (pv 4) pa_nil)))))
  (pss_cons (ps_set (i:=2) sc_q41.nd rfl (.inl rfl) (pe_lst pa_nil))
  (pss_cons (ps_set (i:=3) sc_q41.nd rfl (.inl rfl) (z00 G_q60 (hr.mono (by omega)) rfl (pa_cons (pv 1) (pa_cons (pv 2) pa_nil))))
  (pss_cons (ps_while PassesOwn.never (pt_truth (pv 3) (by intro _; rfl)) (pss_cons (ps_expr (pe_bm PySem.F.plainAttrs_list PySem.F.slot_list_extend PySem.F.type_list_extend mt_extend (pv 2) (pa_cons (pv 3) pa_nil)))
  (pss_one (ps_set (i:=3) sc_q41.nd rfl (.inl rfl) (z00 G_q60 (hr.mono (by omega)) rfl (pa_cons (pv 1) (pa_cons (pv 2) pa_nil)))))))
  (pss_one (ps_ret (pv 2)))))),?_⟩
 have szl:=sizeLine_eq
 have b8:=ok.len
 have nml:b.names.length=b.length:=List.length_map ..
 obtain ⟨va,vdx,vd1,vd2,rfl,hva⟩:=hv.at
 refine ⟨_,rfl,va,vdx,_,rfl,hva,rfl,?_⟩
 refine ⟨_,b,rfl,hv,by omega,fun nl H1 s1 nn hn=>?_⟩
 refine ⟨nl,rfl,⟨_,SqL.of hn⟩,fun D nD=>?_⟩
 refine zgy (walk_list (xs:=b.names.map V.str)) nD (by rw [List.length_map]; omega) (fun i kvs H2=>LedAll K H2 kvs (b.take i)/\∀ p ∈ kvs,p.2 ≠ .ref D) ⟨.nil,by simp⟩ (fun H2 s2=>s2.sqL nmn (SqL.of hn)) (fun i kvs H2 H3 s3 ⟨h1,h2⟩=>⟨h1.sb s3 fun p hp q hq=>by rw [List.mem_singleton.mp hq]; exact h2 p hp,h2⟩) (fun Pv i x Hq H2 kvs hi s2 y hR hl hD2 fin _=>?_) (fun kvs H2 s2 hD2 hR hl=>?_)
 ·obtain ⟨rfl,ey⟩:=y
  rw [List.getElem?_map] at ey
  obtain ⟨n,en,rfl⟩:=Option.map_eq_some_iff.mp ey
  rw [List.getElem?_map] at en
  obtain ⟨k,ek,rfl⟩:=Option.map_eq_some_iff.mp en
  have km:=List.mem_of_getElem? ek
  have eg:=Bk.get_self ok.nd km
  obtain ⟨h1,h2⟩:=hR
  have hnew:∀ p ∈ kvs,p.1 ≠ Sum.inr k.n:=fun p hp z=>by
   have h3:p.1 ∈ (Bk.names (b.take i)).map (Sum.inr (α:=Int)):=by rw [<- h1.keys]; exact List.mem_map.mpr ⟨p,hp,rfl⟩
   rw [z] at h3
   obtain ⟨m,hm,e⟩:=List.mem_map.mp h3
   have e:=Sum.inr.inj e
   subst e
   exact zb4 ok.nd ek hm
  refine ⟨rfl,_,rfl,_,rfl,_,rfl,_,b,k.n,rfl,(hv.sb0 s1).sb0 s2,ok,fun k' e' l ss H3 s3 nl' hl' so=>?_,fun z=>by rw [eg] at z; cases z⟩
  rw [eg] at e'
  cases e'
  refine fin (Sum.inr k.n) (.ref l) H3 s3 ?_
  rw [z2g hnew,List.take_add_one,ek]
  refine ⟨(h1.sb s3 (by simp)).append (.cons hl' so .nil),fun p hp=>?_⟩
  rcases List.mem_append.mp hp with hp | hp
  ·exact h2 p hp
  ·rw [List.mem_singleton.mp hp]
   intro z
   rw [V.ref.inj z,hD2] at nl'
   cases nl'
 obtain ⟨hk,hkD⟩:=hR
 rw [List.length_map,nml,List.take_length] at hk
 have s12:=s1.trans s2
 refine ⟨by show 0<=sizeLine; decide,fun E nE=>?_⟩
 have t3:=SB.new (ps:=[]) nE (.lst [])
 have hE3:upd H2 E (.lst []) E=some (.lst []):=upd_same
 have hkE:=hk.ne nE
 have hD3:=t3.keep _ _ hD2 nmn
 have hk3:=hk.sb t3 (by simp)
 have s03:=s12.trans t3
 have nE0:H E=none:=s12.dom _ nE
 have DE:D ≠ E:=ne_of_none hD2 nE
 generalize upd H2 E (.lst [])=H3 at t3 hE3 hD3 hk3 s03
 refine ⟨_,rfl,_,rfl,D,E,b,[],kvs,rfl,hD3,hk3,hE3,ok,fun F H4 s4 nF hF=>?_⟩
 refine z1y ⟨fun m σ H5=>∃ (es:List Str) (F:Addr),m=9-es.length/\σ=[some (.ref va),some (.ref D),some (.ref E),some (.ref F),none]/\SB [] H H5/\H5 D=some (.dK kvs)/\LedAll K H5 kvs b/\H5 E=some (.lst (es.map V.str))/\H5 F=some (.lst ((b.names.filter (into b es)).map V.str))/\F ≠ E/\es.Nodup/\(∀ n ∈ es,n ∈ b.names)/\(∀ n ∈ es,EndK b n)/\∀ (i:Nat) (n:Str),es[i]?=some n->∀ k ∈ adj b n,k ∈ es.take i,
  ⟨9,[],F,rfl,rfl,s03.trans s4,s4.keep _ _ hD3 nmn,hk3.sb s4 (by simp),s4.keep _ _ hE3 nmn,hF,(fun z=>by rw [z,hE3] at nF; cases nF),List.nodup_nil,by simp,by simp,by simp⟩,fun m σ H5 hW=>?_⟩
 obtain ⟨es,F,rfl,rfl,s5,hD5,hk5,hE5,hF5,FE,nd,sub,ends,ord⟩:=hW
 have fl:=List.length_filter_le (into b es) b.names
 have esl:es.length<=8:=by
  have:=nd.length_le_of_subset (l₂:=b.names) sub
  omega
 refine ⟨_,rfl,_,.inl ⟨_,SqL.of hF5,rfl⟩,?_⟩
 by_cases hf:b.names.filter (into b es)=[]
 ·rw [hf]
  refine iteF ⟨_,rfl,q E es H5 s5 nE0 hE5 ⟨nd,esl,fun n=>⟨fun h=>⟨sub n h,ends n h⟩,fun h=>zav ok hf h.2 h.1⟩,ord⟩⟩
 ·rw [show (!((b.names.filter (into b es)).map V.str).isEmpty)=true by
   cases h:b.names.filter (into b es) with
   | nil=>exact absurd h hf
   | cons _ _=>rfl]
  refine iteT ⟨_,fun σ' H' h=>h,?_⟩
  refine ⟨_,rfl,.inl ⟨rfl,_,SqL.of hE5⟩,_,rfl,E,F,_,_,rfl,rfl,hE5,hF5,by rw [List.length_map,List.length_map]; omega,?_⟩
  rw [<- List.map_append]
  have t6:=SB.set (ps:=[E]) hE5 (by simp) (.lst ((es++b.names.filter (into b es)).map V.str))
  have hE6:upd H5 E (.lst ((es++b.names.filter (into b es)).map V.str)) E=some (.lst ((es++b.names.filter (into b es)).map V.str)):=upd_same
  have hD6:=t6.keep _ _ hD5 (by simpa using DE)
  have hk6:=hk5.sb t6 fun p hp q hq=>by rw [List.mem_singleton.mp hq]; exact hkE p hp
  have s6:SB [] H (upd H5 E (.lst ((es++b.names.filter (into b es)).map V.str))):=((s5.nil (ps:=[E])).trans t6).drop nE0
  generalize upd H5 E (.lst ((es++b.names.filter (into b es)).map V.str))=H6 at t6 hE6 hD6 hk6 s6
  refine ⟨_,rfl,_,rfl,D,E,b,es++b.names.filter (into b es),kvs,rfl,hD6,hk6,hE6,ok,fun F2 H7 s7 nF2 hF2=>?_⟩
  have hpos:0 < (b.names.filter (into b es)).length:=List.length_pos_iff.mpr hf
  refine ⟨9-(es++b.names.filter (into b es)).length,by rw [List.length_append]; omega,es++b.names.filter (into b es),F2,rfl,rfl,s6.trans s7,s7.keep _ _ hD6 nmn,hk6.sb s7 (by simp),s7.keep _ _ hE6 nmn,hF2,(fun z=>by rw [z,hE6] at nF2; cases nF2),?_,fun n hn=>?_,fun n hn=>?_,fun i n ei k hk=>?_⟩
  ·refine List.nodup_append.mpr ⟨nd,ok.nd.filter _,fun x hx y hy e=>?_⟩
   subst e
   have:=(List.mem_filter.mp hy).2
   unfold into at this
   rw [Bool.and_eq_true,decide_eq_true_eq] at this
   exact this.1 hx
  ·rcases List.mem_append.mp hn with h | h
   ·exact sub n h
   ·exact (List.mem_filter.mp h).1
  ·rcases List.mem_append.mp hn with h | h
   ·exact ends n h
   ·have:=(List.mem_filter.mp h).2
    unfold into at this
    rw [Bool.and_eq_true,List.all_eq_true] at this
    exact .mk fun k hk=>ends k (of_decide_eq_true (this.2 k hk))
  ·rcases Nat.lt_or_ge i es.length with hi | hi
   ·rw [List.getElem?_append_left hi] at ei
    rw [List.take_append_of_le_length (by omega)]
    exact ord i n ei k hk
   ·rw [List.getElem?_append_right hi] at ei
    have:=(List.mem_filter.mp (List.mem_of_getElem? ei)).2
    unfold into at this
    rw [Bool.and_eq_true,List.all_eq_true] at this
    have h3:=of_decide_eq_true (this.2 k hk)
    rw [List.take_append,List.take_of_length_le hi]
    exact mal _ h3
abbrev zap:List Str:=["led","ending","name","kind"]
theorem sc_q60:FnScope zap ["led","ending"] (defScope z4m):=⟨rfl,rfl,rfl,by decide +kernel,rfl,by decide +kernel,by decide +kernel⟩
theorem zil (B:BI mg) (F:Fun K "lead_into" "lead_into" z4m f fd):FnOk P w K mg base CX0 (1) f fd ["led","ending"] (z4g K):=by
 refine F.ok sc_q60 (fun vs H Q E h=>?_) (fun cdv A outer s H vs Q E hr h=>?_)
 ·obtain ⟨d,e,b,es,kvs,rfl,_⟩:=h
  rfl
 obtain ⟨d,e,b,es,kvs,rfl,hd,hk,he,ok,q⟩:=h
 have hun2:=hunT hr
 refine ⟨_,pss_one (ps_ret (pe_lock (pe_lc (own:=[("name",2)]) (g:=(gName 2)) (tt:=(tAnd (tTest (tOp (rIn K true) (tVar 2) (tVar 1))) (tB (tCB (rAll K) (tCons (tLc (iList K (tDGet (tVar 0) (tVar 2))) (gName 3) tYes (tOp (rIn K false) (tVar 3) (tVar 1)) [3]) tNil))))) (te:=(tVar 2)) rfl sc_q60.nd (pi_keys (pv 0)) (blkOk_by (N:=zap) (sc:=defScope z4m) (by decide +kernel)) (fun _ _ _ _ _=>(pg_name (i:=2) sc_q60.nd rfl (.inl rfl))) (fun _ _ _ _ _=>(pts_one (PW.pt (pw_and (pt_cmpR op_notIn_seq (pv 2) (pv 1) (by rfl)) (pw_and1 (pt_val (pe_callB (cr_all rfl) rfl B.all boot_all (pa_cons (pe_lc (own:=[("kind",3)]) (g:=(gName 3)) (tt:=tYes) (te:=(tOp (rIn K false) (tVar 3) (tVar 1))) rfl sc_q60.nd (pi_list (pe_dget (by show A.units+3+1 < cLine; omega) (pv 0) (pv 2) (fun _ _=>rfl))) (blkOk_by (N:=zap) (sc:={ kind:=.function,names:=[(".0",.local),("name",.local),("all",.globalImplicit),("ending",.cell),("led",.cell)],isGenerator:=false,isCoroutine:=false }) (by decide +kernel)) (fun _ _ _ _ _=>(pg_name (i:=3) sc_q60.nd rfl (.inl rfl))) (fun _ _ _ _ _=>pts_nil) (fun _ _ _ _ _=>(pe_cmpR op_in_seq (pv 3) (pv 1) (by rfl)))) pa_nil)))))))) (fun _ _ _ _ _=>(pv 2))))),?_⟩
 have szl:=sizeLine_eq
 have b8:=ok.len
 have kl:=hk.length
 refine ⟨d,_,hd,trivial,fun od=>?_⟩
 have hL:∀ l xs,H l=some (.lst xs)->upd H d (.frz od (.dK kvs)) l=some (.lst xs):=fun l xs h=>by rw [upd_ne (fun z=>by rw [z,hd] at h; cases h)]; exact h
 have hkL:=hk.keep hL
 have heL:=hL _ _ he
 have hdL:upd H d (.frz od (.dK kvs)) d=some (.frz od (.dK kvs)):=upd_same
 have un:∀ H',SB [] (upd H d (.frz od (.dK kvs))) H'->SB [] H (upd H' d (.dK kvs)):=fun H' s=>s.unlock hd (fun _ z=>nomatch z) (fun _ _ z=>nomatch z)
 have dm:∀ p,upd H d (.frz od (.dK kvs)) p=none->H p=none:=fun p h=>by
  have z:p ≠ d:=fun z=>by rw [z,upd_same] at h; cases h
  rwa [upd_ne z] at h
 generalize upd H d (.frz od (.dK kvs))=HL at hkL heL hdL un dm
 refine ⟨_,rfl,d,od,rfl,.inl ⟨kvs,hdL,fun D nD=>?_⟩⟩
 refine z11 walk_keys nD (by omega) (fun i us _=>us=((b.names.take i).filter (into b es)).map V.str) rfl (fun H2 s2=>s2.frzs _ _ _ hdL) (fun _ _ _ _ _ h=>h) (fun Pv i x Hq H2 us hi s2 y hR hu fin skip=>?_) (fun us H2 s2 hD2 hR hu=>?_)
 ·obtain ⟨rfl,k0,v0,ek,rfl⟩:=y
  obtain ⟨kd,ekd,e0⟩:=hk.get ek
  have e0:k0=Sum.inr kd.n:=e0
  subst e0
  have km:=List.mem_of_getElem? ekd
  have ea:=z1n ok km
  obtain ⟨l,ss,hv,hl,so⟩:=hkL.val (Bk.get_self ok.nd km)
  have en:b.names[i]?=some kd.n:=by rw [List.getElem?_map,ekd]; rfl
  have he2:=s2.keep _ _ heL nmn
  have hl2:=s2.keep _ _ hl nmn
  have hd2:=s2.frzs _ _ _ hdL
  have hstep:((b.names.take (i+1)).filter (into b es)).map V.str=((b.names.take i).filter (into b es)).map V.str++(if into b es kd.n=true then [V.str kd.n] else []):=by
   rw [List.take_add_one,en,List.filter_append,List.map_append]
   congr 1
   by_cases z:into b es kd.n=true
   ·simp [z]
   ·simp [z]
  refine ⟨rfl,_,rfl,_,rfl,e,_,rfl,.inl (SqL.of he2),rfl,z1f _,_,rfl,?_⟩
  rw [if_pos rfl]
  show if (!inV (.str kd.n) (es.map V.str))=true then _ else _
  rw [z1s]
  by_cases h1:kd.n ∈ es
  ·rw [show (!decide (kd.n ∈ es))=false by simp [h1]]
   refine iteF (skip _ SB.refl ?_)
   rw [hstep,show into b es kd.n=false by simp [into,h1],hR]; simp
  ·rw [show (!decide (kd.n ∈ es))=true by simp [h1]]
   refine iteT ?_
   have sl:ss.length < 1000:=by
    have h2:=so.nd.length_le_of_subset (l₂:=b.names) fun x hx=>ok.led km x ((so.mem x).mp hx)
    rw [List.length_map] at h2
    omega
   refine ⟨_,rfl,_,rfl,d,.ref l,rfl,zl5 (.inr ⟨_,hd2⟩) hv,l,rfl,⟨_,SqL.of hl2⟩,fun D2 nD2=>?_⟩
   refine z11 (walk_list (xs:=ss.map V.str)) nD2 (by rw [List.length_map]; omega) (fun j us _=>us=((ss.take j).map fun k=>decide (k ∈ es)).map V.bl) rfl (fun H4 s4=>s4.sqL nmn (SqL.of hl2)) (fun _ _ _ _ _ h=>h) (fun Pv j z Hq H4 us4 hj s4 y hR4 hu4 fin4 _=>?_) (fun us4 H4 s4 hD4 hR4 hu4=>?_)
   ·obtain ⟨rfl,ez⟩:=y
    rw [List.getElem?_map] at ez
    obtain ⟨sx,ex,rfl⟩:=Option.map_eq_some_iff.mp ez
    refine ⟨rfl,_,rfl,_,rfl,e,_,rfl,.inl (SqL.of (s4.keep _ _ he2 nmn)),rfl,z1f _,?_⟩
    refine fin4 _ _ SB.refl ?_
    rw [hR4,List.take_add_one,ex]
    simp [z1s]
   ·subst hR4
    refine ⟨D2,_,rfl,SqL.of hD4,_,rfl,?_⟩
    have eall:((ss.take (ss.map V.str).length).map fun k=>decide (k ∈ es)).all id=(adj b kd.n).all fun k=>decide (k ∈ es):=by
     rw [List.length_map,List.take_length,List.all_map,ea,<- zgz so]; rfl
    rw [eall]
    have ei:into b es kd.n=(adj b kd.n).all fun k=>decide (k ∈ es):=by unfold into; simp [h1]
    by_cases h3:((adj b kd.n).all fun k=>decide (k ∈ es))=true
    ·rw [h3]
     refine iteT ⟨_,rfl,fin _ _ s4 ?_⟩
     rw [hstep,ei,h3,hR]; rfl
    ·have h3:((adj b kd.n).all fun k=>decide (k ∈ es))=false:=by simpa using h3
     rw [h3]
     refine iteF (skip _ s4 ?_)
     rw [hstep,ei,h3,hR]; simp
 ·subst hR
  have hd2:=s2.frzs _ _ _ hdL
  have Dd:D ≠ d:=fun z=>by rw [z,hdL] at nD; cases nD
  refine ⟨hd2,q D _ (un _ s2) (dm _ nD) ?_⟩
  rw [upd_ne Dd,hD2,kl,<- show b.names.length=b.length from List.length_map ..,List.take_length]
abbrev ze1:List Str:=["book","ending","name"]
theorem sc_q42:FnScope ze1 ["book"] (defScope z4h):=⟨rfl,rfl,rfl,by decide +kernel,rfl,by decide +kernel,by decide +kernel⟩
theorem zjj {C_Book C_NoKind:Addr} (B:BI mg) (G_q41:Got P w K mg base "ending_kinds" ["book"] (24) (z2w K C_Book C_NoKind)) (G_q1:GotM P w K mg base C_Book "names" ["self"] (1) (z2q K C_Book)) (F:Fun K "endless_kinds" "endless_kinds" z4h f fd):FnOk P w K mg base CX0 (25) f fd ["book"] (z52 K C_Book C_NoKind):=by
 refine F.ok sc_q42 (fun vs H Q E h=>?_) (fun cdv A outer s H vs Q E hr h=>?_)
 ·obtain ⟨v,b,rfl,_⟩:=h
  rfl
 obtain ⟨v,b,rfl,hv,ok,q⟩:=h
 have hun2:=hunT hr
 refine ⟨_,pss_cons (ps_set (i:=1) sc_q42.nd rfl (.inr rfl) (z00 G_q41 (hr.mono (by omega)) rfl (pa_cons (pv 0) pa_nil)))
  (pss_one (ps_ret (pe_callB cr_sortedS rfl B.sorted (by decide +kernel) (pa_cons (pe_lc (own:=[("name",2)]) (g:=(gName 2)) (tt:=(tTest (tOp (rIn K true) (tVar 2) (tVar 1)))) (te:=(tVar 2)) rfl sc_q42.nd (pi_list (z13 G_q1 (hr.mono (by omega)) (pv 0))) (blkOk_by (N:=ze1) (sc:=defScope z4h) (by decide +kernel)) (fun _ _ _ _ _=>(pg_name (i:=2) sc_q42.nd rfl (.inl rfl))) (fun _ _ _ _ _=>(pts_one (pt_cmpR op_notIn_seq (pv 2) (pv 1) (by rfl)))) (fun _ _ _ _ _=>(pv 2))) pa_nil)))),?_⟩
 have szl:=sizeLine_eq
 have b8:=ok.len
 refine ⟨_,rfl,v,b,rfl,hv,ok,fun l es H1 s1 nl hl eo=>?_⟩
 have el:=eo.len
 have hm:∀ n ∈ b.names,n ∈ es ↔ EndK b n:=fun n hn=>⟨fun h=>((eo.mem n).mp h).2,fun h=>(eo.mem n).mpr ⟨hn,h⟩⟩
 obtain ⟨va,vdx,vd1,vd2,rfl,hva⟩:=hv.at
 refine ⟨_,rfl,va,vdx,_,rfl,s1.keep _ _ hva nmn,rfl,?_⟩
 refine ⟨_,b,rfl,hv.sb0 s1,by omega,fun nl2 H2 s2 nn hn=>?_⟩
 have hl2:=s2.keep _ _ hl nmn
 refine ⟨nl2,rfl,⟨_,SqL.of hn⟩,fun D nD=>?_⟩
 have nml:b.names.length=b.length:=List.length_map ..
 refine z11 (walk_list (xs:=b.names.map V.str)) nD (by rw [List.length_map]; omega) (fun i us _=>us=((b.names.take i).filter fun n=>decide (n ∉ es)).map V.str) rfl (fun H3 s3=>s3.sqL nmn (SqL.of hn)) (fun _ _ _ _ _ h=>h) (fun Pv i x Hq H3 us hi s3 y hR hu fin skip=>?_) (fun us H3 s3 hD3 hR hu=>?_)
 ·obtain ⟨rfl,ey⟩:=y
  rw [List.getElem?_map] at ey
  obtain ⟨n,en,rfl⟩:=Option.map_eq_some_iff.mp ey
  refine ⟨rfl,_,rfl,_,rfl,l,_,rfl,.inl (SqL.of (s3.keep _ _ hl2 nmn)),rfl,z1f _,_,rfl,?_⟩
  rw [if_pos rfl,z1s]
  have hstep:((b.names.take (i+1)).filter fun n=>decide (n ∉ es)).map V.str=((b.names.take i).filter fun n=>decide (n ∉ es)).map V.str++(if n ∉ es then [V.str n] else []):=by
   rw [List.take_add_one,en,List.filter_append,List.map_append]
   congr 1
   by_cases z:n ∈ es
   ·simp [z]
   ·simp [z]
  by_cases h1:n ∈ es
  ·rw [show (!decide (n ∈ es))=false by simp [h1]]
   refine iteF (skip _ SB.refl ?_)
   rw [hstep,if_neg (by simp [h1]),hR]; simp
  ·rw [show (!decide (n ∈ es))=true by simp [h1]]
   refine iteT ⟨_,rfl,fin _ _ SB.refl ?_⟩
   rw [hstep,if_pos h1,hR]
 ·rw [List.length_map,List.take_length] at hR
  subst hR
  refine ⟨D,_,rfl,SqL.of hD3,?_,fun ys p pm srt np=>?_⟩
  ·have:=List.length_filter_le (fun n=>decide (n ∉ es)) b.names
   omega
  have s03:=(s1.trans s2).trans s3
  refine q p ys _ (s03.trans (SB.new (ps:=[]) np _)) (s03.dom _ np) upd_same srt (pm.nodup_iff.mpr (ok.nd.filter _)) fun n=>?_
  rw [pm.mem_iff,List.mem_filter]
  simp only [decide_eq_true_eq]
  exact ⟨fun ⟨h1,h2⟩=>⟨h1,fun z=>h2 ((hm n h1).mpr z)⟩,fun ⟨h1,h2⟩=>⟨h1,fun z=>h2 ((hm n h1).mp z)⟩⟩
abbrev zll:List Str:=["book","grove","endless","kind"]
theorem sc_q35:FnScope zll ["book","grove"] (defScope z6m):=⟨rfl,rfl,rfl,by decide +kernel,rfl,by decide +kernel,by decide +kernel⟩
theorem zjc {C_Endless C_Book C_NoKind:Addr} (B:BI mg) (O_Endless:OwnI P w K mg base "Endless" C_Endless 1) (G_q42:Got P w K mg base "endless_kinds" ["book"] (25) (z52 K C_Book C_NoKind)) (G_q57:Got P w K mg base "kinds_within" ["grove"] (71) (z4j K)) (F:Fun K "check_ends" "check_ends" z6m f fd):FnOk P w K mg base (L2.CX P w) (72) f fd ["book","grove"] (z53 K C_Book C_NoKind):=by
 refine F.okX sc_q35 (fun vs H Q E h=>?_) (fun cdv A outer s H vs Q E hr h=>?_)
 ·obtain ⟨v,w,b,g,rfl,_⟩:=h
  rfl
 obtain ⟨v,w,b,g,rfl,hv,ok,hg,hd,hp,hk,he,q⟩:=h
 have hun2:=hunT hr
 refine ⟨_,pss_cons (ps_set (i:=2) sc_q35.nd rfl (.inl rfl) (z00 G_q42 (hr.mono (by omega)) rfl (pa_cons (pv 0) pa_nil)))
  (pss_one (ps_for (passes_of rfl) rfl (pi_list (z00 G_q57 (hr.mono (by omega)) rfl (pa_cons (pv 1) pa_nil))) (pg_name (i:=3) sc_q35.nd rfl (.inl rfl))
   (pss_one (ps_if (pt_cmpR op_in_seq (pv 3) (pv 2) (by rfl)) (pss_one (ps_raise rfl (takes_of rfl rfl rfl rfl) (z98 O_Endless (hr.mono (by omega)) rfl (pv 3)))) pss_nil)))),?_⟩
 refine ⟨_,rfl,v,b,rfl,hv,ok,fun l ss H1 s1 nl hl srt nd hm=>?_⟩
 refine ⟨_,rfl,w,g,b.names,rfl,hg.sb s1,hd,hp,hk,by rw [List.length_map]; have:=ok.len; omega,fun l2 ss2 H2 s2 nl2 hl2 so sl=>?_⟩
 refine ⟨l2,rfl,⟨_,SqL.of hl2⟩,?_⟩
 have hl3:=s2.keep _ _ hl nmn
 have ne:l ≠ l2:=fun z=>by rw [<- z,hl] at nl2; cases nl2
 refine for_it (walk_list (xs:=ss2.map V.str)) (fun i σ H3=>SB [] H2 H3/\∃ o3,σ=[some v,some w,some (.ref l),o3]) ⟨SB.refl,none,rfl⟩ (fun i σ H3 hi h3=>h3.1.sqL nmn (SqL.of hl2)) (fun i x σ Hq H3 hi h3 y=>?_) (fun σ H3 h3=>?_)
 ·obtain ⟨s3,o3,rfl⟩:=h3
  obtain ⟨rfl,ey⟩:=y
  rw [List.getElem?_map] at ey
  obtain ⟨k,ek,rfl⟩:=Option.map_eq_some_iff.mp ey
  obtain ⟨p,hp2,e⟩:=List.mem_map.mp ((so.mem k).mp (List.mem_of_getElem? ek))
  have kend:EndK b k:=e ▸ he p hp2
  refine ⟨_,rfl,_,rfl,l,_,rfl,.inl (SqL.of (s3.keep _ _ hl3 nmn)),rfl,z1f _,?_⟩
  rw [z1s,show decide (k ∈ ss)=false from decide_eq_false fun z=>((hm k).mp z).2 kend]
  exact ⟨_,rfl,iteF ⟨s3,_,rfl⟩⟩
 ·obtain ⟨s3,o3,rfl⟩:=h3
  exact q _ ((s1.trans s2).trans s3)
abbrev zkk:List Str:=["book","grove"]
theorem zij:FnScope zkk ["book","grove"] (defScope z5f):=⟨rfl,rfl,rfl,by decide +kernel,rfl,by decide +kernel,by decide +kernel⟩
theorem zhi {C_Book C_NoKind:Addr} (B:BI mg) (G_q37:GotX P w K mg base "check_kinds" ["book","grove"] (72) (z1k K C_Book)) (G_q35:GotX P w K mg base "check_ends" ["book","grove"] (72) (z53 K C_Book C_NoKind)) (G_q71:Got P w K mg base "reckoned" ["book","worths","grove"] (45) (z1o K C_Book 20)) (G_q66:Got P w K mg base "own_ranks" ["book"] (47) (z3f K C_Book C_NoKind)) (F:Fun K "rank" "rank" z5f f fd):FnOk P w K mg base (L2.CX P w) (73) f fd ["book","grove"] (z19 K C_Book C_NoKind):=by
 refine F.okX zij (fun vs H Q E h=>?_) (fun cdv A outer s H vs Q E hr h=>?_)
 ·obtain ⟨v,w,b,ρ,g,rfl,_⟩:=h
  rfl
 obtain ⟨v,w,b,ρ,g,rfl,hv,ok,ow,hg,hd,hp,hk,he,hfit,q⟩:=h
 have hun2:=hunT hr
 refine ⟨_,pss_cons (ps_expr (z0p G_q37 (hr.mono (by omega)) rfl (takes_of rfl rfl rfl rfl) (pa_cons (pv 0) (pa_cons (pv 1) pa_nil))))
  (pss_cons (ps_expr (z0p G_q35 (hr.mono (by omega)) rfl (takes_of rfl rfl rfl rfl) (pa_cons (pv 0) (pa_cons (pv 1) pa_nil))))
  (pss_one (ps_ret (z00 G_q71 (hr.mono (by omega)) rfl (pa_cons (pv 0) (pa_cons (z00 G_q66 (hr.mono (by omega)) rfl (pa_cons (pv 0) pa_nil)) (pa_cons (pv 1) pa_nil))))))),?_⟩
 have b8:=ok.len
 refine ⟨_,rfl,_,rfl,v,w,b,g,rfl,hv,hg,by omega,by omega,by omega,hk,fun H1 s1=>?_⟩
 refine ⟨_,rfl,_,rfl,v,w,b,g,rfl,hv.sb0 s1,ok,hg.sb s1,by omega,by omega,hk,he,fun H2 s2=>?_⟩
 have s02:=s1.trans s2
 refine ⟨_,rfl,_,rfl,v,b,ρ,rfl,hv.sb0 s02,ok,ow,fun d es H3 s3 nd hw eo=>?_⟩
 have s03:=s02.trans s3
 refine ⟨_,rfl,v,w,d,b,ρ,es,g,rfl,hv.sb0 s03,by omega,hw,hg.sb s03,hd,hfit es (fun n hn hen=>(eo.mem n).mpr ⟨hn,hen⟩),hp,fun x H' s hx=>q x H' (s03.trans s) hx⟩
abbrev zf0:List Str:=["book","found","name","rule"]
theorem sc_q66:FnScope zf0 ["book"] (defScope z3s):=⟨rfl,rfl,rfl,by decide +kernel,rfl,by decide +kernel,by decide +kernel⟩
theorem zit {C_Book C_NoKind:Addr} (B:BI mg) (G_q41:Got P w K mg base "ending_kinds" ["book"] (24) (z2w K C_Book C_NoKind)) (G_q74:GotX P w K mg base "rules_from_nought" ["book","name"] (5) (z47 K C_Book C_NoKind)) (G_q39:Got P w K mg base "climb" ["book","worths","rule"] (46) (z69 K C_Book)) (F:Fun K "own_ranks" "own_ranks" z3s f fd):FnOk P w K mg base CX0 (47) f fd ["book"] (z3f K C_Book C_NoKind):=by
 refine F.ok sc_q66 (fun vs H Q E h=>?_) (fun cdv A outer s H vs Q E hr h=>?_)
 ·obtain ⟨v,b,ρ,rfl,_⟩:=h
  rfl
 obtain ⟨v,b,ρ,rfl,hv,ok,ow,q⟩:=h
 have hun2:=hunT hr
 refine ⟨_,pss_cons (ps_set (i:=1) sc_q66.nd rfl (.inr rfl) pe_dnewK)
  (pss_cons (ps_for PassesOwn.never rfl (pi_list (z00 G_q41 (hr.mono (by omega)) rfl (pa_cons (pv 0) pa_nil))) (pg_name (i:=2) sc_q66.nd rfl (.inl rfl))
   (pss_one (ps_dput (by show A.units+3+1 < cLine; omega) (pv 1) (pv 2) (pe_callB (zgp rfl (by show A.units+3+110 < cLine; omega)) rfl B.max boot_max (pa_cons (pe_lc (own:=[("rule",3)]) (g:=(gName 3)) (tt:=tYes) (te:=(tCall (z69 K C_Book) [] E0 (tCons (tVar 0) (tCons (tVar 1) (tCons (tVar 3) tNil))))) rfl sc_q66.nd (pi_list (z1u G_q74 (hr.mono (by omega)) rfl (pa_cons (pv 0) (pa_cons (pv 2) pa_nil)))) (blkOk_by (N:=zf0) (sc:=defScope z3s) (by decide +kernel)) (fun _ _ _ _ _=>(pg_name (i:=3) sc_q66.nd rfl (.inl rfl))) (fun _ _ _ _ _=>pts_nil) (fun _ _ _ _ _=>(z00 G_q39 (hr.mono (by omega)) rfl (pa_cons (pv 0) (pa_cons (pv 1) (pa_cons (pv 3) pa_nil)))))) pa_nil)) rfl)))
  (pss_one (ps_ret (pv 1)))),?_⟩
 have szl:=sizeLine_eq
 have b8:=ok.len
 intro D nD
 have t1:=SB.new (ps:=[]) nD (.dK [])
 have hD1:upd H D (.dK []) D=some (.dK []):=upd_same
 generalize upd H D (.dK [])=H1 at t1 hD1
 refine ⟨_,rfl,v,b,rfl,hv.sb0 t1,ok,fun l es H2 s2 nl hl eo=>?_⟩
 have e8:=eo.len
 refine ⟨l,rfl,⟨_,SqL.of hl⟩,?_⟩
 have Dl:D ≠ l:=fun z=>by rw [<- z,hD1] at nl; cases nl
 refine for_it (walk_list (xs:=es.map V.str)) (fun i σ H3=>SB [D] H2 H3/\(∃ o2:Option V,σ=[some v,some (.ref D),o2,none])/\RkD K H3 D ρ (es.take i)) ⟨SB.refl,⟨none,rfl⟩,[],s2.keep _ _ hD1 nmn,.nil⟩ (fun i σ H3 hi h3=>h3.1.sqL (by simpa using fun z=>Dl z.symm) (SqL.of hl)) (fun i x σ Hq H3 hi h3 y=>?_) (fun σ H3 h3=>?_)
 ·obtain ⟨s3,⟨o2,rfl⟩,hR⟩:=h3
  obtain ⟨rfl,ey⟩:=y
  rw [List.getElem?_map] at ey
  obtain ⟨n,en,rfl⟩:=Option.map_eq_some_iff.mp ey
  have s03:SB [] H H3:=((t1.trans s2).nil.trans s3).drop nD
  have hn:=(eo.mem n).mp (List.mem_of_getElem? en)
  obtain ⟨kd,eg⟩:=Bk.get_of hn.1
  obtain ⟨km,rfl⟩:=Bk.get_some eg
  obtain ⟨kn,r4,rr⟩:=ok.kd kd km
  refine ⟨_,rfl,_,rfl,v,b,kd.n,rfl,hv.sb0 s03,by omega,fun k hk=>Nat.le_trans (ok.kd k hk).2.1 (by decide),fun k' e' ll us H4 s4 nll hll hbl=>?_,fun z=>by rw [eg] at z; cases z⟩
  rw [eg] at e'
  cases e'
  have ul:=hbl.length
  have Dll:D ≠ ll:=fun z=>by
   obtain ⟨_,h1,_⟩:=hR
   rw [<- z,h1] at nll; cases nll
  have hR4:=hR.sb0 s4
  have s04:=s03.trans s4
  refine ⟨ll,rfl,⟨_,SqL.of hll⟩,fun D2 nD2=>?_⟩
  refine z11 (walk_list (xs:=us)) nD2 (by rw [ul,List.length_cons]; omega) (fun j ws H5=>Bears K H5 Lad.enc ws (((noR::kd.rs).take j).map (clm b ρ))) .nil (fun H5 s5=>s5.sqL nmn (SqL.of hll)) (fun j ws H5 H6 s6 h=>h.sb s6 Lad.noList_enc) (fun Pv j x Hq H5 ws hj s5 y hR5 hu5 fin skip=>?_) (fun ws H5 s5 hD5 hR5 hu5=>?_)
  ·obtain ⟨rfl,ey⟩:=y
   obtain ⟨r,er,hrd⟩:=hbl.get ey
   have rm:=List.mem_of_getElem? er
   have rf:RFit b ρ (es.take i) r:=by
    rcases List.mem_cons.mp rm with rfl | rm
    ·exact zh8 b ρ _
    ·exact ow.fit kd km hn.2 _ (fun n h=>eo.ord i _ en n h) r rm
   have rp:r.1.parts+r.2.parts<=4:=by
    rcases List.mem_cons.mp rm with rfl | rm
    ·decide
    ·exact (rr r rm).1.2.2
   have rd1:=z0e r.1
   have rd2:=z0e r.2
   refine ⟨rfl,_,rfl,_,rfl,_,rfl,v,x,D,b,ρ,es.take i,r,rfl,(hv.sb0 s04).sb0 s5,by omega,hR4.sb0 s5,z01 s5 _ _ (Ru.noList_enc _) hrd,by omega,by omega,by omega,by omega,rf,fun z H6 s6 hz=>fin z H6 s6 ?_⟩
   rw [List.take_add_one,er,List.map_append]
   exact (hR5.sb s6 Lad.noList_enc).append (.cons hz .nil)
  ·rw [ul,List.take_length,List.map_cons,show clm b ρ noR=Lad.uno from z9h b ρ] at hR5
   have hR6:=hR4.sb0 s5
   refine ⟨D2,ws,Lad.uno,kd.rs.map (clm b ρ),rfl,SqL.of hD5,hR5,fun l hl'=>?_,fun x hx=>?_⟩
   ·rcases List.mem_cons.mp hl' with rfl | hl'
    ·decide
    ·obtain ⟨r,rm,rfl⟩:=List.mem_map.mp hl'
     exact ow.deep kd km hn.2 r rm
   rw [<- ow.own kd km hn.2] at hx
   have fresh:kd.n ∉ es.take i:=fun z=>by
    obtain ⟨j,hj,ej⟩:=List.getElem_of_mem z
    rw [List.getElem_take] at ej
    rw [List.length_take] at hj
    have e2:=List.getElem_of_getElem? en
    obtain ⟨hi2,e2⟩:=e2
    exact List.pairwise_iff_getElem.mp eo.nd j i (by omega) hi2 (by omega) (ej.trans e2.symm)
   obtain ⟨H6,hput,s6,hR7⟩:=hR6.put fresh (by rw [List.length_take]; omega) hx
   refine ⟨_,rfl,_,rfl,D,H6,rfl,hput,?_,⟨_,rfl⟩,?_⟩
   ·exact (s3.trans (s4.trans s5).nil).trans s6
   ·rw [List.take_add_one,en]
    exact hR7
 ·obtain ⟨s3,⟨o2,rfl⟩,hR⟩:=h3
  rw [List.length_map,List.take_length] at hR
  exact ⟨_,rfl,q D es _ (((t1.trans s2).nil.trans s3).drop nD) nD hR eo⟩
abbrev zl8:List Str:=["book","worths","rule","once","each"]
theorem sc_q39:FnScope zl8 ["book","worths","rule"] (defScope z5s):=⟨rfl,rfl,rfl,by decide +kernel,rfl,by decide +kernel,by decide +kernel⟩
theorem zjz {C_Book:Addr} (B:BI mg) (G_q27:Got P w K mg base "above" ["one","other"] (4) (z8m K)) (G_q71:Got P w K mg base "reckoned" ["book","worths","grove"] (45) (z1o K C_Book 20)) (F:Fun K "climb" "climb" z5s f fd):FnOk P w K mg base CX0 (46) f fd ["book","worths","rule"] (z69 K C_Book):=by
 refine F.ok sc_q39 (fun vs H Q E h=>?_) (fun cdv A outer s H vs Q E hr h=>?_)
 ·obtain ⟨v,u,d,b,ρ,ns,r,rfl,_⟩:=h
  rfl
 obtain ⟨v,u,d,b,ρ,ns,r,rfl,hv,hl,hw,hu,d1,d2,p1,p2,hfit,q⟩:=h
 have hun2:=hunT hr
 refine ⟨_,pss_cons (ps_asg (pv 2) (pg_tup rfl (pgs_cons (pg_name (i:=3) sc_q39.nd rfl (.inl rfl)) (pgs_cons (pg_name (i:=4) sc_q39.nd rfl (.inl rfl)) pgs_nil))))
  (pss_one (ps_ret (z00 G_q27 (hr.mono (by omega)) rfl (pa_cons (z00 G_q71 (hr.mono (by omega)) rfl (pa_cons (pv 0) (pa_cons (pv 1) (pa_cons (pv 3) pa_nil)))) (pa_cons (z00 G_q71 (hr.mono (by omega)) rfl (pa_cons (pv 0) (pa_cons (pv 1) (pa_cons (pv 4) pa_nil)))) pa_nil))))),?_⟩
 cases hu with
 | @tup ad us' _ hs' hda =>
 cases hda with
 | cons g1 hda =>
 cases hda with
 | cons g2 hda =>
 cases hda
 obtain ⟨h1,h2,h3,h4,h5,h6⟩:=hfit
 refine ⟨_,rfl,ad,_,rfl,hs',rfl,_,_,rfl,_,_,rfl,rfl,?_⟩
 refine ⟨_,rfl,_,rfl,_,rfl,v,_,d,b,ρ,ns,r.1,rfl,hv,hl,hw,g1,d1,h1.z,p1,fun x1 H1 s1 hx1=>?_⟩
 refine ⟨_,rfl,_,rfl,_,rfl,v,_,d,b,ρ,ns,r.2,rfl,hv.sb0 s1,hl,hw.sb0 s1,GA.sb g2 s1,d2,h2.z,p2,fun x2 H2 s2 hx2=>?_⟩
 exact ⟨x1,x2,_,_,rfl,hx1.sb s2,hx2,Nat.le_trans h3 (by decide),Nat.le_trans h4 (by decide),Nat.le_trans h5 (by decide),Nat.le_trans h6 (by decide),fun x H' s hx=>q x H' ((s1.trans s2).trans s) hx⟩
abbrev zg6:List Str:=["book","worths","grove","tree","many"]
theorem sc_q71:FnScope zg6 ["book","worths","grove"] (defScope z4d):=⟨rfl,rfl,rfl,by decide +kernel,rfl,by decide +kernel,by decide +kernel⟩
theorem zhq {n:Nat} {C_Book:Addr} (B:BI mg) (G_q29:Got P w K mg base "all_together" ["some"] (2) (z7t K)) (G_q63:Got P w K mg base "many_of" ["ladder","many"] (1) (z2t K)) (G_q72:Got P w K mg base "reckoned_tree" ["book","worths","tree"] (2*n+6) (z2m K C_Book n)) (F:Fun K "reckoned" "reckoned" z4d f fd):FnOk P w K mg base CX0 (2*n+7) f fd ["book","worths","grove"] (z1o K C_Book (n+1)):=by
 refine F.ok sc_q71 (fun vs H Q E h=>?_) (fun cdv A outer s H vs Q E hr h=>?_)
 ·obtain ⟨v,u,d,b,ρ,ns,g,rfl,_⟩:=h
  rfl
 obtain ⟨v,u,d,b,ρ,ns,g,rfl,hv,hl,hw,hg,hgd,hfit,hp,q⟩:=h
 have hun2:=hunT hr
 refine ⟨_,pss_one (ps_ret (z00 G_q29 (hr.mono (by omega)) rfl (pa_cons (pe_lc (own:=[("tree",3),("many",4)]) (g:=(gTup K 2 (gCons (gName 3) (gCons (gName 4) gNil)))) (tt:=tYes) (te:=(tCall (z2t K) [] E0 (tCons (tCall (z2m K C_Book n) [] E0 (tCons (tVar 0) (tCons (tVar 1) (tCons (tVar 3) tNil)))) (tCons (tVar 4) tNil)))) rfl sc_q71.nd (pi_tup (pv 2)) (blkOk_by (N:=zg6) (sc:=defScope z4d) (by decide +kernel)) (fun _ _ _ _ _=>(pg_tup rfl (pgs_cons (pg_name (i:=3) sc_q71.nd rfl (.inl rfl)) (pgs_cons (pg_name (i:=4) sc_q71.nd rfl (.inl rfl)) pgs_nil)))) (fun _ _ _ _ _=>pts_nil) (fun _ _ _ _ _=>(z00 G_q63 (hr.mono (by omega)) rfl (pa_cons (z00 G_q72 (hr.mono (by omega)) rfl (pa_cons (pv 0) (pa_cons (pv 1) (pa_cons (pv 3) pa_nil)))) (pa_cons (pv 4) pa_nil))))) pa_nil))),?_⟩
 obtain ⟨a,xs,rfl,hs,hb⟩:=z0i hg
 have xl:=hb.length
 have lp:=g.len_parts
 have szl:=sizeLine_eq
 refine ⟨_,rfl,a,rfl,⟨xs,hs⟩,fun D hD=>?_⟩
 refine z11 (walk_tup (xs:=xs)) hD (by omega) (fun i us H2=>Bears K H2 Lad.enc us ((g.ps.take i).map fun p:Tr × Int=>Lad.tms (Gr.rkt b ρ p.1) p.2)) .nil (fun H2 s2=>s2.sqT hs) (fun i us H2 H3 s3 h=>h.sb s3 Lad.noList_enc) (fun Pv i x Hq H2 us hi s2 y hR hu fin skip=>?_) (fun us H2 s2 hD2 hR hu=>?_)
 ·obtain ⟨rfl,ey⟩:=y
  obtain ⟨p,ep,hpd⟩:=hb.get ey
  have pm:=List.mem_of_getElem? ep
  obtain ⟨ad,td,ux,rfl,hs2,hs3,hga,htd⟩:=z0h hpd
  obtain ⟨⟨f1,f2,f3,f4,f5,f6,f7,f8⟩,f9⟩:=hfit.at p pm
  have pd:=g.mem_deep p pm
  have pp:=g.mem_parts p pm
  refine ⟨ad,_,rfl,s2.sqT hs2,rfl,_,_,rfl,_,_,rfl,rfl,rfl,?_⟩
  refine ⟨_,rfl,_,rfl,_,rfl,v,.ref td,d,b,ρ,ns,p.1.1,p.1.2,rfl,hv.sb0 s2,hl,hw.sb0 s2,z01 s2 _ _ (Gr.noList_tEnc _) htd,by omega,⟨f1,f2,f3,f4,f5⟩,f9,by omega,fun x H3 s3 hx=>?_⟩
  refine ⟨_,rfl,x,_,p.2,rfl,hx,Nat.le_trans f6.parts (by decide),f6.num,f7,f8,fun y H4 s4 hy=>fin y H4 (s3.trans s4) ?_⟩
  rw [List.take_add_one,ep,List.map_append]
  exact (hR.sb (s3.trans s4) Lad.noList_enc).append (.cons hy .nil)
 ·rw [xl,List.take_length,<- Gr.rkT_ps] at hR
  refine ⟨D,us,Gr.rkT b ρ g,rfl,SqL.of hD2,hR,fun l hm=>?_,Nat.le_trans hfit.len (by decide),fun x H' s hx=>q x H' (s2.trans s) hx⟩
  rw [Gr.rkT_ps] at hm
  obtain ⟨p,pm,rfl⟩:=List.mem_map.mp hm
  exact Nat.le_trans (Lad.tms_deep _ (hfit.at p pm).1.2.2.2.2.2.1.deep) (by decide)
abbrev zlv:List Str:=["book","worths","tree","kind","held"]
theorem sc_q72:FnScope zlv ["book","worths","tree"] (defScope z5j):=⟨rfl,rfl,rfl,by decide +kernel,rfl,by decide +kernel,by decide +kernel⟩
theorem zc2 {n:Nat} {C_Book:Addr} (B:BI mg) (G_q58:Got P w K mg base "laden" ["book","kind","own","inner"] (5) (z78 K C_Book)) (G_q71:Got P w K mg base "reckoned" ["book","worths","grove"] (2*n+5) (z1o K C_Book n)) (F:Fun K "reckoned_tree" "reckoned_tree" z5j f fd):FnOk P w K mg base CX0 (2*n+6) f fd ["book","worths","tree"] (z2m K C_Book n):=by
 refine F.ok sc_q72 (fun vs H Q E h=>?_) (fun cdv A outer s H vs Q E hr h=>?_)
 ·obtain ⟨v,t,d,b,ρ,ns,k,g,rfl,_⟩:=h
  rfl
 obtain ⟨v,t,d,b,ρ,ns,k,g,rfl,hv,hl,hw,ht,hgd,⟨kn,kb,kne,fk,fg⟩,hfit,hp,q⟩:=h
 have hun2:=hunT hr
 refine ⟨_,pss_cons (ps_asg (pv 2) (pg_tup rfl (pgs_cons (pg_name (i:=3) sc_q72.nd rfl (.inl rfl)) (pgs_cons (pg_name (i:=4) sc_q72.nd rfl (.inl rfl)) pgs_nil))))
  (pss_one (ps_ret (z00 G_q58 (hr.mono (by omega)) rfl (pa_cons (pv 0) (pa_cons (pv 3) (pa_cons (pe_dget (by show A.units+3+1 < cLine; omega) (pv 1) (pv 3) (fun _ _=>rfl)) (pa_cons (z00 G_q71 (hr.mono (by omega)) rfl (pa_cons (pv 0) (pa_cons (pv 1) (pa_cons (pv 4) pa_nil)))) pa_nil))))))),?_⟩
 obtain ⟨a,u,rfl,hs,hga⟩:=z9s ht
 obtain ⟨ux,hux,hul⟩:=hw.val kn
 refine ⟨_,rfl,a,_,rfl,hs,rfl,_,_,rfl,_,_,rfl,rfl,?_⟩
 refine ⟨_,rfl,_,rfl,_,rfl,_,rfl,d,ux,rfl,hux,?_⟩
 refine ⟨_,rfl,_,rfl,_,rfl,v,u,d,b,ρ,ns,g,rfl,hv,hl,hw,hga,hgd,hfit,hp,fun x H1 s1 hx=>?_⟩
 exact ⟨v,ux,x,b,k,ρ k,Gr.rk b ρ g,rfl,hv.sb0 s1,hl,kb,⟨hul.sb s1,kne,fk⟩,⟨hx,fg⟩,fun y H2 s2 hy=>q y H2 (s1.trans s2) hy⟩
abbrev zm0:List Str:=["book","kind","own","inner"]
theorem zix:FnScope zm0 ["book","kind","own","inner"] (defScope z6l):=⟨rfl,rfl,rfl,by decide +kernel,rfl,by decide +kernel,by decide +kernel⟩
theorem zj3 {C_Book C_NoKind:Addr} (B:BI mg) (G_q3:z12 P w K mg base C_Book "spreads" ["self","name"] (4) (z25 K C_Book C_NoKind)) (G_q76:Got P w K mg base "spread" ["one","other"] (3) (z7b K)) (G_q32:Got P w K mg base "behind" ["one","other"] (2) (z2f K)) (F:Fun K "laden" "laden" z6l f fd):FnOk P w K mg base CX0 (5) f fd ["book","kind","own","inner"] (z78 K C_Book):=by
 refine F.ok zix (fun vs H Q E h=>?_) (fun cdv A outer s H vs Q E hr h=>?_)
 ·obtain ⟨v,u,t,b,n,o,l,rfl,_⟩:=h
  rfl
 obtain ⟨v,u,t,b,n,o,l,rfl,hv,hl,hn,⟨hu,hne,fo⟩,⟨ht,fl⟩,q⟩:=h
 have hun2:=hunT hr
 refine ⟨_,pss_cons (ps_if (pt_val (z79 G_q3 (hr.mono (by omega)) (pv 0) (pa_cons (pv 1) pa_nil))) (pss_one (ps_ret (z00 G_q76 (hr.mono (by omega)) rfl (pa_cons (pv 2) (pa_cons (pv 3) pa_nil))))) pss_nil)
  (pss_one (ps_ret (z00 G_q32 (hr.mono (by omega)) rfl (pa_cons (pv 2) (pa_cons (pv 3) pa_nil))))),?_⟩
 obtain ⟨va,vdx,vd1,vd2,rfl,hva⟩:=hv.at
 obtain ⟨kd,eg⟩:=Bk.get_of hn
 refine ⟨_,rfl,va,vdx,_,rfl,hva,rfl,_,rfl,?_⟩
 refine ⟨_,b,n,rfl,hv,hl,fun k' e' H1 s1=>?_,fun z=>by rw [eg] at z; cases z⟩
 rw [eg] at e'
 cases e'
 refine ⟨_,rfl,?_⟩
 have hwd:b.wide n=kd.w:=Bk.wide_get eg
 cases hk:kd.w with
 | true =>
  refine iteT ⟨_,rfl,_,rfl,?_⟩
  cases o with
  | nil=>exact absurd rfl hne
  | cons e m r =>
  refine ⟨u,t,e,m,r,l,rfl,hu.sb s1,ht.sb s1,Nat.le_trans fo.deep (by decide),Nat.le_trans fl.deep (by decide),Nat.le_trans fo.parts (by decide),Nat.le_trans fl.parts (by decide),fun x H' s2 hx=>q x H' (s1.trans s2) ?_⟩
  rw [hwd,hk]
  exact hx
 | false =>
  refine iteF ⟨_,rfl,_,rfl,?_⟩
  refine ⟨u,t,o,l,rfl,hu.sb s1,ht.sb s1,Nat.le_trans fo.deep (by decide),Nat.le_trans fl.deep (by decide),Nat.le_trans fo.parts (by decide),Nat.le_trans fl.parts (by decide),fun x H' s2 hx=>q x H' (s1.trans s2) ?_⟩
  rw [hwd,hk]
  exact hx
abbrev zkc:List Str:=["_law_script","_law_many_here","_law_found","_law_seed","_law_great","_law_turn","_law_k","_law_cell","_law_left","_law_one"]
theorem sc_q15:FnScope zkc ["_law_script","_law_many_here"] (defScope z5g):=⟨rfl,rfl,rfl,by decide +kernel,rfl,by decide +kernel,by decide +kernel⟩
theorem zik (B:BI mg) (F:Fun K "_law_draws" "_law_draws" z5g f fd):FnOk P w K mg base CX0 (1) f fd ["_law_script","_law_many_here"] (z8l K):=by
 refine F.ok sc_q15 (fun vs H Q E h=>?_) (fun cdv A outer s H vs Q E hr h=>?_)
 ·obtain ⟨a,ns,m,rfl,_⟩:=h
  rfl
 obtain ⟨a,ns,m,rfl,ha,hl,hm,q⟩:=h
 have hun2:=hunT hr
 refine ⟨_,pss_cons (ps_set (i:=2) sc_q15.nd rfl (.inl rfl) (pe_lst pa_nil))
  (pss_cons (ps_set (i:=3) sc_q15.nd rfl (.inl rfl) pe_int)
  (pss_cons (ps_set (i:=4) sc_q15.nd rfl (.inl rfl) pe_int)
  (pss_cons (ps_for PassesOwn.never rfl (pi_range1 rfl B.range (pa_cons pe_int pa_nil)) (pg_name (i:=5) sc_q15.nd rfl (.inl rfl))
   (pss_one (ps_set (i:=4) sc_q15.nd rfl (.inl rfl) (pe_op op_mulW (pv 4) (pe_op zgw pe_int pe_int)))))
  (pss_cons (ps_for PassesOwn.never rfl (pi_enum rfl B.enumerate (pa_cons (pe_slice sl_list (pv 0) po_none (po_some pe_int)) pa_nil)) (pg_tup rfl (pgs_cons (pg_name (i:=6) sc_q15.nd rfl (.inl rfl)) (pgs_cons (pg_name (i:=7) sc_q15.nd rfl (.inl rfl)) pgs_nil)))
   (pss_cons (ps_set (i:=3) sc_q15.nd rfl (.inl rfl) (pe_op op_mod (pe_op op_add (pe_op op_add (pe_op op_mulW (pv 3) pe_int) (pe_op op_mod (pv 7) pe_int)) pe_int) pe_int))
  (pss_one (ps_if (PW.pt (pw_or (pt_cmpR op_ge (pv 7) (pe_op op_pow pe_int pe_int) (nomark _)) (pw_or1 (pt_cmpR op_lt (pv 7) pe_int (nomark _))))) (pss_cons (ps_set (i:=8) sc_q15.nd rfl (.inl rfl) (pe_op op_mod (pv 7) (pv 4)))
  (pss_one (ps_while PassesOwn.never (pt_cmpR op_gt (pv 8) pe_int (nomark _)) (pss_cons (ps_expr (pe_bm PySem.F.plainAttrs_list PySem.F.slot_list_append PySem.F.type_list_append mt_append (pv 2) (pa_cons (pe_op op_mod (pv 8) (pe_op op_pow pe_int pe_int)) pa_nil)))
  (pss_one (ps_set (i:=8) sc_q15.nd rfl (.inl rfl) (pe_op op_fdivW (pv 8) (pe_op op_pow pe_int pe_int)))))))) (pss_cons (ps_set (i:=9) sc_q15.nd rfl (.inl rfl) (pe_op op_mod (pe_op op_add (pe_op op_add (pe_op op_mulW (pv 7) pe_int) (pe_op op_mul (pe_op op_mul (pv 6) (pv 6)) pe_int)) pe_int) pe_int))
  (pss_one (ps_for PassesOwn.never rfl (pi_range1 rfl B.range (pa_cons pe_int pa_nil)) (pg_name (i:=5) sc_q15.nd rfl (.inl rfl))
   (pss_cons (ps_set (i:=9) sc_q15.nd rfl (.inl rfl) (pe_op op_mod (pe_op op_add (pe_op op_add (pe_op op_mulW (pv 9) (pv 9)) (pe_op op_mul pe_int (pv 5))) pe_int) pe_int))
  (pss_one (ps_expr (pe_bm PySem.F.plainAttrs_list PySem.F.slot_list_append PySem.F.type_list_append mt_append (pv 2) (pa_cons (pv 9) pa_nil))))))))))))
  (pss_cons (ps_while PassesOwn.never (pt_cmpR op_lt (pe_callB call_len_seq rfl B.len PySem.boot_len (pa_cons (pv 2) pa_nil)) (pv 1) (nomark _)) (pss_cons (ps_set (i:=3) sc_q15.nd rfl (.inl rfl) (pe_op op_mod (pe_op op_add (pe_op op_mulW (pv 3) pe_int) (pe_callB call_len_seq rfl B.len PySem.boot_len (pa_cons (pv 2) pa_nil))) pe_int))
  (pss_one (ps_expr (pe_bm PySem.F.plainAttrs_list PySem.F.slot_list_append PySem.F.type_list_append mt_append (pv 2) (pa_cons (pe_op op_mod (pe_op op_mulW (pv 3) (pv 3)) pe_int) pa_nil))))))
  (pss_one (ps_ret (pe_revL (pe_slice sl_list (pv 2) po_none (po_some (pv 1))))))))))),?_⟩
 have szl:=sizeLine_eq
 refine ⟨by show 0<=sizeLine; decide,fun W nW=>?_⟩
 have t1:=SB.new (ps:=[]) nW (.lst [])
 have hW1:upd H W (.lst []) W=some (.lst (([]:List Int).map V.int)):=upd_same
 have ha1:=t1.sqL nmn ha
 generalize upd H W (.lst [])=H1 at t1 hW1 ha1
 refine ⟨_,rfl,by decide,by decide,?_⟩
 refine for_it walk_range (fun i σ H2=>H2=H1/\∃ (G:Int) (o5:Option V),σ=[some (.ref a),some (.int (m:Int)),some (.ref W),some (.int 29),some (.int G),o5,none,none,none,none]/\1<=G/\G.natAbs < 2 ^ (200*i+1))
  ⟨rfl,1,none,rfl,by decide,by decide⟩ (fun _ _ _ _ _=>trivial) (fun i x σ H8 H' hi h2 y=>?_) (fun σ H8 h2=>?_)
 ·obtain ⟨rfl,G,o5,rfl,G1,G2⟩:=h2
  obtain ⟨rfl,rfl⟩:=y
  have e60:(10:Int) ^ (60:Int).toNat=1000000000000000000000000000000000000000000000000000000000000:=by decide +kernel
  have b60:((10:Int) ^ (60:Int).toNat).natAbs < 2 ^ 200:=by decide +kernel
  refine ⟨_,rfl,_,_,rfl,rfl,⟨by decide,by decide,by decide +kernel⟩,_,_,rfl,rfl,wide_mul (a:=200*i+1) (b:=200) G2 b60 (by omega) (by decide) (by have:i < 9:=hi; omega),?_⟩
  refine ⟨rfl,G*(10:Int) ^ (60:Int).toNat,_,rfl,by rw [e60]; omega,?_⟩
  have:=wide_lt G2 b60
  rw [show 200*(i+1)+1=200*i+1+200 by omega]
  exact this
 obtain ⟨rfl,G,o5,rfl,G1,G2⟩:=h2
 have G3:G.natAbs < 2 ^ 1801:=G2
 refine ⟨_,rfl,63,rfl,a,_,rfl,ha1,fun l2 nl2=>?_⟩
 obtain ⟨ms,em,hml⟩:=zgh ns none (some 63)
 rw [em]
 have t2:=SB.new (ps:=[]) nl2 (.lst (ms.map V.int))
 have hl2:upd H8 l2 (.lst (ms.map V.int)) l2=some (.lst (ms.map V.int)):=upd_same
 have hW2:=t2.keep _ _ hW1 nmn
 have lW:l2 ≠ W:=fun z=>by rw [z,hW1] at nl2; cases nl2
 have s02:=t1.trans t2
 generalize upd H8 l2 (.lst (ms.map V.int))=H2 at t2 hl2 hW2 s02
 refine ⟨l2,_,rfl,SqL.of hl2,?_⟩
 refine for_it (walk_enum (K:=K) (a:=l2) (xs:=ms.map V.int)) (fun i σ H3=>SB [W] H2 H3/\∃ (sd:Int) (fs:List Int) (o5 o6 o7 o8 o9:Option V),σ=[some (.ref a),some (.int (m:Int)),some (.ref W),some (.int sd),some (.int G),o5,o6,o7,o8,o9]/\(0<=sd/\sd < 2147483647)/\H3 W=some (.lst (fs.map V.int))/\(∀ x ∈ fs,0<=x/\x < 2147483629)/\fs.length<=1900*i)
  ⟨SB.refl,29,[],_,_,_,_,_,rfl,⟨by decide,by decide⟩,hW2,by simp,by simp⟩ (fun i σ H3 hi h3=>h3.1.sqL (by simpa using lW) (SqL.of hl2)) (fun i x σ H3 H' hi h3 y=>?_) (fun σ H3 h3=>?_)
 ·obtain ⟨s3,sd,fs,o5,o6,o7,o8,o9,rfl,⟨sd0,sdm⟩,hW3,fsb,fsl⟩:=h3
  obtain ⟨T,x1,y1,rfl,hT,rfl,ex,ey⟩:=y
  have ex:some (V.int (i:Nat))=some x1:=ex
  cases ex
  have ey:(ms.map V.int)[i]?=some y1:=ey
  rw [List.getElem?_map] at ey
  rw [List.length_map] at hi
  obtain ⟨c,ec,rfl⟩:=Option.map_eq_some_iff.mp ey
  have t4:=SB.new (ps:=[]) hT (.tup [.int (i:Nat),.int c])
  have hW4:=t4.keep _ _ hW3 nmn
  have s4:=s3.trans (t4.nil (ps:=[W]))
  have hT4:upd H3 T (.tup [.int (i:Nat),.int c]) T=some (.tup [.int (i:Nat),.int c]):=upd_same
  generalize upd H3 T (.tup [.int (i:Nat),.int c])=H4 at t4 hW4 s4 hT4
  refine ⟨T,_,rfl,SqT.of hT4,rfl,_,_,rfl,_,_,rfl,rfl,?_⟩
  have sdb:sd.natAbs < 2 ^ 32:=by omega
  refine ⟨_,rfl,_,_,rfl,rfl,wide_mul (a:=32) (b:=32) sdb (by decide) (by decide) (by decide) (by decide),_,rfl,_,_,rfl,rfl,(by show (0:Int) < 2147483629; decide),_,_,rfl,rfl,_,_,rfl,rfl,_,_,rfl,rfl,(by show (0:Int) < 2147483647; decide),?_⟩
  dsimp only
  have sd2:0<=(sd*48271+c % 2147483629+1) % 2147483647/\(sd*48271+c % 2147483629+1) % 2147483647 < 2147483647:=by omega
  generalize (sd*48271+c % 2147483629+1) % 2147483647=sd' at sd2
  have e9:(10:Int) ^ (9:Int).toNat=1000000000:=by decide +kernel
  refine zhy (i:=7) (c:=c) rfl ?_
  by_cases hc:(1000000000000000000:Int)<=c\/c < 0
  ·rw [decide_eq_true hc]
   refine iteT ?_
   refine ⟨_,rfl,_,rfl,_,_,rfl,rfl,(by show (0:Int) < G; omega),?_⟩
   have hlf:(c % G).toNat < 2 ^ 1801:=by
    have h1:=Int.emod_lt_of_pos c (show 0 < G by omega)
    have h2:=Int.emod_nonneg c (show G ≠ 0 by omega)
    generalize (2:Nat) ^ 1801=X at G3 ⊢
    omega
   have elf:c % G=((c % G).toNat:Int):=(Int.toNat_of_nonneg (Int.emod_nonneg c (show G ≠ 0 by omega))).symm
   dsimp only
   rw [elf]
   refine ⟨fun mm σ H5=>∃ (lf:Nat) (fs':List Int),σ=[some (.ref a),some (.int (m:Int)),some (.ref W),some (.int sd'),some (.int G),o5,some (.int (i:Int)),some (.int c),some (.int (lf:Int)),o9]/\lf < 2 ^ mm/\SB [W] H2 H5/\H5 W=some (.lst (fs'.map V.int))/\(∀ x ∈ fs',0<=x/\x < 2147483629)/\fs'.length+mm<=1900*i+1801,⟨1801,(c % G).toNat,fs,rfl,hlf,s4,hW4,fsb,by omega⟩,fun mm σ H5 hW=>?_⟩
   obtain ⟨lf,fs',rfl,hlf,s5,hW5,fsb',fsl'⟩:=hW
   refine ⟨_,rfl,_,_,rfl,rfl,_,rfl,?_⟩
   have hi':i < 64:=by omega
   by_cases h0:0 < lf
   ·rw [decide_eq_true (show (0:Int) < (lf:Int) by omega)]
    refine iteT ⟨_,fun σ' H' h=>h,?_⟩
    refine ⟨_,rfl,.inl ⟨rfl,_,SqL.of hW5⟩,_,rfl,_,_,rfl,rfl,⟨by decide,by decide,by decide⟩,_,_,rfl,rfl,(by rw [e9]; show (0:Int) < 1000000000; decide),?_⟩
    dsimp only
    rw [e9]
    refine ⟨W,_,_,rfl,rfl,hW5,by rw [List.length_map]; omega,?_⟩
    have e1:fs'.map V.int++[V.int ((lf:Int) % 1000000000)]=(fs'++[(lf:Int) % 1000000000]).map V.int:=by rw [List.map_append]; rfl
    rw [e1]
    have s6:=SB.set (ps:=[W]) hW5 (by simp) (.lst ((fs'++[(lf:Int) % 1000000000]).map V.int))
    refine ⟨_,rfl,_,_,rfl,rfl,⟨by decide,by decide,by decide⟩,_,_,rfl,rfl,(by rw [e9]; exact ⟨by decide,by decide +kernel⟩),?_⟩
    dsimp only
    rw [e9]
    cases mm with
    | zero=>simp at hlf; omega
    | succ mm =>
     refine ⟨mm,by omega,lf / 1000000000,fs'++[(lf:Int) % 1000000000],?_,?_,s5.trans s6,upd_same,fun x hx=>?_,by rw [List.length_append,List.length_singleton]; omega⟩
     ·have:(lf:Int) / 1000000000=((lf / 1000000000:Nat):Int):=by omega
      rw [this]; rfl
     ·rw [Nat.pow_succ] at hlf
      generalize (2:Nat) ^ mm=X at hlf ⊢
      omega
     ·rcases List.mem_append.mp hx with hx | hx
      ·exact fsb' x hx
      ·rw [List.mem_singleton.mp hx]; omega
   ·rw [decide_eq_false (show ¬ (0:Int) < (lf:Int) by omega)]
    refine iteF ?_
    exact ⟨s5,sd',fs',_,_,_,_,_,rfl,sd2,hW5,fsb',by omega⟩
  ·rw [decide_eq_false hc]
   refine iteF ?_
   have hi':i < 64:=by omega
   refine ⟨_,rfl,_,_,rfl,rfl,wide_mul (a:=60) (b:=32) (by omega) (by decide) (by decide) (by decide) (by decide),_,rfl,_,rfl,_,_,rfl,rfl,.inl ⟨by omega,by omega⟩,_,_,rfl,rfl,.inr ⟨by decide,by decide⟩,_,_,rfl,rfl,_,_,rfl,rfl,_,_,rfl,rfl,(by show (0:Int) < 2147483647; decide),?_⟩
   dsimp only
   have hon:0<=(c*69621+(i:Int)*(i:Int)*16807+7) % 2147483647/\(c*69621+(i:Int)*(i:Int)*16807+7) % 2147483647 < 2147483647:=⟨Int.emod_nonneg _ (by decide),Int.emod_lt_of_pos _ (by decide)⟩
   generalize (c*69621+(i:Int)*(i:Int)*16807+7) % 2147483647=on0 at hon
   refine ⟨_,rfl,by decide,by decide,?_⟩
   refine for_it walk_range (fun j σ H5=>SB [W] H2 H5/\∃ (on:Int) (fs':List Int) (o5:Option V),σ=[some (.ref a),some (.int (m:Int)),some (.ref W),some (.int sd'),some (.int G),o5,some (.int (i:Int)),some (.int c),o8,some (.int on)]/\(0<=on/\on < 2147483647)/\H5 W=some (.lst (fs'.map V.int))/\(∀ x ∈ fs',0<=x/\x < 2147483629)/\fs'.length<=1900*i+j)
    ⟨s4,on0,fs,_,rfl,hon,hW4,fsb,by omega⟩ (fun _ _ _ _ _=>trivial) (fun j x σ H5 H' hj h5 y=>?_) (fun σ H5 h5=>?_)
   ·obtain ⟨s5,on,fs',o5',rfl,⟨on0',onm⟩,hW5,fsb',fsl'⟩:=h5
    obtain ⟨rfl,rfl⟩:=y
    have hj:j < 4:=hj
    have onb:on.natAbs < 2 ^ 32:=by omega
    refine ⟨_,rfl,_,rfl,_,_,rfl,rfl,wide_mul (a:=32) (b:=32) onb onb (by decide) (by decide) (by decide),_,rfl,_,_,rfl,rfl,.inl ⟨by decide,by decide⟩,_,_,rfl,rfl,_,_,rfl,rfl,_,_,rfl,rfl,(by show (0:Int) < 2147483629; decide),?_⟩
    dsimp only
    have hon2:0<=(on*on+40692*(0+(j:Int))+3) % 2147483629/\(on*on+40692*(0+(j:Int))+3) % 2147483629 < 2147483629:=⟨Int.emod_nonneg _ (by decide),Int.emod_lt_of_pos _ (by decide)⟩
    generalize (on*on+40692*(0+(j:Int))+3) % 2147483629=on2 at hon2
    refine ⟨_,rfl,.inl ⟨rfl,_,SqL.of hW5⟩,_,rfl,W,_,_,rfl,rfl,hW5,by rw [List.length_map]; omega,?_⟩
    have e1:fs'.map V.int++[V.int on2]=(fs'++[on2]).map V.int:=by rw [List.map_append]; rfl
    rw [e1]
    refine ⟨s5.trans (SB.set (ps:=[W]) hW5 (by simp) _),on2,fs'++[on2],_,rfl,⟨hon2.1,by omega⟩,upd_same,fun x hx=>?_,by rw [List.length_append,List.length_singleton]; omega⟩
    rcases List.mem_append.mp hx with hx | hx
    ·exact fsb' x hx
    ·rw [List.mem_singleton.mp hx]; exact hon2
   ·obtain ⟨s5,on,fs',o5',rfl,_,hW5,fsb',fsl'⟩:=h5
    have e4:((4:Int)).toNat=4:=rfl
    rw [e4] at fsl'
    exact ⟨s5,sd',fs',_,_,_,_,_,rfl,sd2,hW5,fsb',by omega⟩
 ·obtain ⟨s3,sd,fs,o5,o6,o7,o8,o9,rfl,sdb,hW3,fsb,fsl⟩:=h3
  rw [List.length_map] at fsl
  have s03:SB [W] H H3:=s02.nil.trans s3
  refine ⟨fun mm σ H5=>∃ (sd:Int) (fs:List Int) (o5 o6 o7 o8 o9:Option V),mm=m-fs.length/\σ=[some (.ref a),some (.int (m:Int)),some (.ref W),some (.int sd),some (.int G),o5,o6,o7,o8,o9]/\(0<=sd/\sd < 2147483647)/\SB [W] H H5/\H5 W=some (.lst (fs.map V.int))/\(∀ x ∈ fs,0<=x/\x < 2147483629)/\fs.length<=130000,
   ⟨_,sd,fs,_,_,_,_,_,rfl,rfl,sdb,s03,hW3,fsb,by omega⟩,fun mm σ H5 hW=>?_⟩
  obtain ⟨sd,fs,o5,o6,o7,o8,o9,rfl,rfl,⟨sd0,sdm⟩,s5,hW5,fsb,fsl⟩:=hW
  refine ⟨_,rfl,W,_,rfl,.inl (SqL.of hW5),_,rfl,_,_,rfl,rfl,_,rfl,?_⟩
  rw [List.length_map]
  by_cases hlt:fs.length < m
  ·rw [decide_eq_true (show (fs.length:Int) < (m:Int) by omega)]
   refine iteT ⟨_,fun σ' H' h=>h,?_⟩
   have sdb:sd.natAbs < 2 ^ 32:=by omega
   refine ⟨_,rfl,_,_,rfl,rfl,wide_mul (a:=32) (b:=32) sdb (by decide) (by decide) (by decide) (by decide),_,rfl,W,_,rfl,.inl (SqL.of hW5),_,_,rfl,rfl,_,_,rfl,rfl,(by show (0:Int) < 2147483647; decide),?_⟩
   rw [List.length_map]
   have sd2:0<=(sd*48271+(fs.length:Int)) % 2147483647/\(sd*48271+(fs.length:Int)) % 2147483647 < 2147483647:=⟨Int.emod_nonneg _ (by decide),Int.emod_lt_of_pos _ (by decide)⟩
   dsimp only
   generalize (sd*48271+(fs.length:Int)) % 2147483647=sd' at sd2
   have sdb':sd'.natAbs < 2 ^ 32:=by omega
   refine ⟨_,rfl,.inl ⟨rfl,_,SqL.of hW5⟩,_,rfl,_,rfl,_,_,rfl,rfl,wide_mul (a:=32) (b:=32) sdb' sdb' (by decide) (by decide) (by decide),_,_,rfl,rfl,(by show (0:Int) < 2147483629; decide),W,_,_,rfl,rfl,hW5,by rw [List.length_map]; omega,?_⟩
   have hn:0<=sd'*sd' % 2147483629/\sd'*sd' % 2147483629 < 2147483629:=⟨Int.emod_nonneg _ (by decide),Int.emod_lt_of_pos _ (by decide)⟩
   dsimp only
   generalize sd'*sd' % 2147483629=nw at hn
   have e1:fs.map V.int++[V.int nw]=(fs++[nw]).map V.int:=by rw [List.map_append]; rfl
   rw [e1]
   refine ⟨m-(fs++[nw]).length,by rw [List.length_append,List.length_singleton]; omega,sd',fs++[nw],_,_,_,_,_,rfl,rfl,sd2,s5.trans (SB.set (ps:=[W]) hW5 (by simp) _),upd_same,fun x hx=>?_,by rw [List.length_append,List.length_singleton]; omega⟩
   rcases List.mem_append.mp hx with hx | hx
   ·exact fsb x hx
   ·rw [List.mem_singleton.mp hx]; exact hn
  ·rw [decide_eq_false (show ¬ (fs.length:Int) < (m:Int) by omega)]
   refine iteF ?_
   refine ⟨_,rfl,_,rfl,_,rfl,W,_,rfl,SqL.of hW5,fun l3 nl3=>?_⟩
   rw [zac,<- List.map_take]
   have t6:=SB.new (ps:=[]) nl3 (.lst ((fs.take m).map V.int))
   have hl3:upd H5 l3 (.lst ((fs.take m).map V.int)) l3=some (.lst ((fs.take m).map V.int)):=upd_same
   generalize upd H5 l3 (.lst ((fs.take m).map V.int))=H6 at t6 hl3
   refine ⟨l3,_,rfl,SqL.of hl3,fun l4 nl4=>?_⟩
   rw [<- List.map_reverse]
   have t7:=SB.new (ps:=[]) nl4 (.lst ((fs.take m).reverse.map V.int))
   have sW:SB [] H H5:=s5.drop nW
   refine q l4 _ ((sW.trans t6).trans t7) (sW.dom _ (t6.dom _ nl4)) ⟨(fs.take m).reverse,upd_same,fun x hx=>fsb x (List.mem_of_mem_take (List.mem_reverse.mp hx)),?_⟩
   rw [List.length_reverse,List.length_take]
   omega
abbrev zl7:List Str:=["_law_draws_here"]
theorem zk0:FnScope zl7 ["_law_draws_here"] (defScope z68):=⟨rfl,rfl,rfl,by decide +kernel,rfl,by decide +kernel,by decide +kernel⟩
theorem zje (B:BI mg) (F:Fun K "_law_next" "_law_next" z68 f fd):FnOk P w K mg base CX0 (1) f fd ["_law_draws_here"] (z2k):=by
 refine F.ok zk0 (fun vs H Q E h=>?_) (fun cdv A outer s H vs Q E hr h=>?_)
 ·obtain ⟨p,rfl,_⟩:=h
  rfl
 obtain ⟨p,rfl,hp,q⟩:=h
 have hun2:=hunT hr
 refine ⟨_,pss_cons (ps_if (pt_cmpR op_gt (pe_callB call_len_seq rfl B.len PySem.boot_len (pa_cons (pv 0) pa_nil)) pe_int (nomark _)) (pss_one (ps_ret (pe_bm0 PySem.F.plainAttrs_list PySem.F.slot_list_pop PySem.F.type_list_pop mt_pop (pv 0)))) pss_nil)
  (pss_one (ps_ret pe_int)),?_⟩
 obtain ⟨ns,hp1,hb,hl⟩:=hp
 refine ⟨_,rfl,p,_,rfl,.inl (SqL.of hp1),_,_,rfl,rfl,_,rfl,?_⟩
 rcases List.eq_nil_or_concat ns with he | ⟨js,x,he⟩
 ·subst he
  refine iteF ?_
  exact q 0 H (by decide) (by decide) SB.refl ⟨[],hp1,by simp,by simp⟩
 ·rw [List.concat_eq_append] at he
  subst he
  rw [show decide (((0:Int)) < (((js++[x]).map V.int).length:Int))=true from decide_eq_true (by rw [List.length_map,List.length_append,List.length_singleton]; omega)]
  refine iteT ?_
  have e1:(js++[x]).map V.int=js.map V.int++[V.int x]:=by rw [List.map_append]; rfl
  rw [e1] at hp1
  have hx:=hb x (by simp)
  refine ⟨_,rfl,.inl ⟨rfl,_,SqL.of hp1⟩,p,_,_,rfl,rfl,hp1,(by simp:(js.map V.int++[V.int x])[(js.map V.int++[V.int x]).length-1]?=some (V.int x)),?_⟩
  have edl:(js.map V.int++[V.int x]).dropLast=js.map V.int:=by simp
  rw [edl]
  exact q x _ hx.1 hx.2 (SB.set hp1 (by simp) _) ⟨js,upd_same,fun y hy=>hb y (mal _ hy),by rw [List.length_append] at hl; omega⟩
abbrev zlk:List Str:=["_law_draws_here","_law_many_here","_law_letters","_law_head","_law_start","_law_names_here","_law_k","_law_long","_law_place","_law_fill","_law_sign"]
theorem sc_q23:FnScope zlk ["_law_draws_here","_law_many_here"] (defScope z6e):=⟨rfl,rfl,rfl,by decide +kernel,rfl,by decide +kernel,by decide +kernel⟩
theorem zie (B:BI mg) (G_q24:Got P w K mg base "_law_next" ["_law_draws_here"] (1) (z2k)) (F:Fun K "_law_names" "_law_names" z6e f fd):FnOk P w K mg base CX0 (2) f fd ["_law_draws_here","_law_many_here"] (z43 K):=by
 refine F.ok sc_q23 (fun vs H Q E h=>?_) (fun cdv A outer s H vs Q E hr h=>?_)
 ·obtain ⟨p,m,rfl,_⟩:=h
  rfl
 obtain ⟨p,m,rfl,hp,m8,q⟩:=h
 have hun2:=hunT hr
 refine ⟨_,pss_cons (ps_set (i:=2) sc_q23.nd rfl (.inl rfl) pe_str)
  (pss_cons (ps_set (i:=3) sc_q23.nd rfl (.inl rfl) (z00 G_q24 (hr.mono (by omega)) rfl (pa_cons (pv 0) pa_nil)))
  (pss_cons (ps_set (i:=4) sc_q23.nd rfl (.inl rfl) (pe_op op_mod (pe_op op_fdivW (pv 3) pe_int) pe_int))
  (pss_cons (ps_set (i:=5) sc_q23.nd rfl (.inl rfl) (pe_lst pa_nil))
  (pss_cons (ps_for PassesOwn.never rfl (pi_range1 rfl B.range (pa_cons (pv 1) pa_nil)) (pg_name (i:=6) sc_q23.nd rfl (.inl rfl))
   (pss_one (ps_if (pt_cmpR op_eq (pe_op op_mod (pv 3) pe_int) pe_int (nomark _)) (pss_one (ps_expr (pe_bm PySem.F.plainAttrs_list PySem.F.slot_list_append PySem.F.type_list_append mt_append (pv 5) (pa_cons (pe_op z8k (pe_ix ix_str (pv 2) (pv 4) (fun _ _=>rfl)) (pe_op op_add pe_int (pe_op op_mod (pe_op op_add (pe_op op_mul pe_int (pv 6)) (pe_op op_fdivW (pv 3) pe_int)) pe_int))) pa_nil)))) (pss_cons (ps_set (i:=7) sc_q23.nd rfl (.inl rfl) (pe_op op_add pe_int (pe_op op_mod (pe_op op_fdivW (pv 3) pe_int) pe_int)))
  (pss_cons (ps_set (i:=8) sc_q23.nd rfl (.inl rfl) (pe_op op_mod (pe_op op_fdivW (pv 3) pe_int) (pv 7)))
  (pss_cons (ps_set (i:=9) sc_q23.nd rfl (.inl rfl) (pe_ix ix_str (pv 2) (pe_op op_mod (pe_op op_fdivW (pv 3) pe_int) pe_int) (fun _ _=>rfl)))
  (pss_cons (ps_set (i:=10) sc_q23.nd rfl (.inl rfl) (pe_ix ix_str (pv 2) (pe_op op_mod (pe_op op_add (pv 4) (pe_op op_mul (pv 6) (pe_op op_add pe_int (pe_op op_mul pe_int (pe_op op_mod (pe_op op_fdivW (pv 3) pe_int) pe_int))))) pe_int) (fun _ _=>rfl)))
  (pss_one (ps_expr (pe_bm PySem.F.plainAttrs_list PySem.F.slot_list_append PySem.F.type_list_append mt_append (pv 5) (pa_cons (pe_op op_add_str (pe_op op_add_str (pe_op z8k (pv 9) (pv 8)) (pv 10)) (pe_op z8k (pv 9) (pe_op op_sub (pe_op op_sub (pv 7) (pv 8)) pe_int))) pa_nil)))))))))))
  (pss_one (ps_ret (pv 5))))))),?_⟩
 have szl:=sizeLine_eq
 refine z1y (seqI (asgI ?_))
 refine ⟨_,rfl,p,rfl,hp,fun h0 H1 h00 h0m s1 hp1=>?_⟩
 obtain ⟨hd,rfl⟩:∃ u:Nat,h0=(u:Int):=⟨h0.toNat,by omega⟩
 refine ⟨_,rfl,_,_,rfl,rfl,⟨by decide,by decide +kernel⟩,_,_,rfl,rfl,(by show (0:Int) < 26; decide),?_⟩
 dsimp only
 obtain ⟨st,est,st26⟩:∃ u:Nat,(hd:Int) / 48 % 26=(u:Int)/\u < 26:=⟨hd / 48 % 26,by omega,by omega⟩
 rw [est]
 refine ⟨by show 0<=sizeLine; decide,fun W nW=>?_⟩
 have t2:=SB.new (ps:=[]) nW (.lst [])
 have hW2:upd H1 W (.lst []) W=some (.lst []):=upd_same
 have hp2:=hp1.sb t2
 have s02:=s1.trans (t2.nil (ps:=[p]))
 have nW0:=s1.dom _ nW
 have pW:=hp1.ne nW
 generalize upd H1 W (.lst [])=H2 at t2 hW2 hp2 s02
 refine ⟨_,rfl,_,rfl,by omega,by omega,?_⟩
 rw [Int.toNat_natCast]
 let long:Nat:=1+hd / 1248 % 8
 let place:Nat:=hd / 9984 % long
 let fc:Nat:=97+hd / 79872 % 26
 let s2:Nat:=1+2*(hd / 8 % 6)
 let wA:Nat->Str:=fun i=>Txt.mul ⟨#[97+st]⟩ ((1+(3*i+hd / 4) % 8:Nat):Int)
 let wB:Nat->Str:=fun i=>Txt.mul ⟨#[fc]⟩ (place:Int)++⟨#[97+(st+i*s2) % 26]⟩++Txt.mul ⟨#[fc]⟩ ((long-place-1:Nat):Int)
 let wd:Nat->Str:=fun i=>if hd % 4=0 then wA i else wB i
 have long8:1<=long/\long<=8:=by show 1<=1+hd / 1248 % 8/\1+hd / 1248 % 8<=8; omega
 have place8:place < long:=Nat.mod_lt _ (by omega)
 have fcl:97<=fc/\fc<=122:=by show 97<=97+hd / 79872 % 26/\97+hd / 79872 % 26<=122; omega
 have lA:∀ i,Ltr (wA i) (1+(3*i+hd / 4) % 8):=fun i=>Ltr.mul _ (by omega)
 have lP:Ltr (Txt.mul ⟨#[fc]⟩ (place:Int)) place:=Ltr.mul _ fcl
 have lQ:Ltr (Txt.mul ⟨#[fc]⟩ ((long-place-1:Nat):Int)) (long-place-1):=Ltr.mul _ fcl
 have lB:∀ i,Ltr (wB i) (place+1+(long-place-1)):=fun i=>(lP.append (Ltr.one (by omega))).append lQ
 refine for_it walk_range (fun i σ H8=>SB [W] H2 H8/\∃ o6 o7 o8 o9 o10:Option V,σ=[some (.ref p),some (.int (m:Int)),some (.str abc),some (.int (hd:Int)),some (.int (st:Int)),some (.ref W),o6,o7,o8,o9,o10]/\H8 W=some (.lst (((List.range i).map wd).map V.str)))
  ⟨SB.refl,none,none,none,none,none,rfl,hW2⟩ (fun _ _ _ _ _=>trivial) (fun i x σ H8 H' hi h2 y=>?_) (fun σ H8 h2=>?_)
 ·obtain ⟨s8,o6,o7,o8,o9,o10,rfl,hW8⟩:=h2
  obtain ⟨rfl,rfl⟩:=y
  refine ⟨_,rfl,_,_,rfl,rfl,(by show (0:Int) < 4; decide),rfl,_,rfl,?_⟩
  have fin:∀ (z:Str) (o6 o7 o8 o9 o10:Option V),z=wd i->SB [W] H2 (upd H' W (.lst (((List.range i).map wd).map V.str++[V.str z])))/\∃ o6' o7' o8' o9' o10':Option V,[some (V.ref p),some (.int (m:Int)),some (.str abc),some (.int (hd:Int)),some (.int (st:Int)),some (.ref W),o6,o7,o8,o9,o10]=[some (.ref p),some (.int (m:Int)),some (.str abc),some (.int (hd:Int)),some (.int (st:Int)),some (.ref W),o6',o7',o8',o9',o10']/\upd H' W (.lst (((List.range i).map wd).map V.str++[V.str z])) W=some (.lst (((List.range (i+1)).map wd).map V.str)):=fun z o6 o7 o8 o9 o10 e=>by
   refine ⟨s8.trans (SB.set hW8 (by simp) _),_,_,_,_,_,rfl,?_⟩
   rw [upd_same,List.range_succ,List.map_append,List.map_append,e]
   rfl
  by_cases h4:hd % 4=0
  ·rw [show decide (V.int ((hd:Int) % 4)=V.int 0)=true from decide_eq_true (congrArg V.int (by omega))]
   refine iteT ?_
   have e1:(1:Int)+(3*(0+(i:Int))+(hd:Int) / 4) % 8=((1+(3*i+hd / 4) % 8:Nat):Int):=by omega
   refine ⟨_,rfl,.inl ⟨rfl,_,SqL.of hW8⟩,_,rfl,_,rfl,abc,_,97+st,rfl,rfl,z86,z3x (z74 _ st26),_,rfl,_,_,rfl,rfl,.inl ⟨by decide,by decide⟩,_,rfl,_,_,rfl,rfl,⟨by decide,by decide +kernel⟩,_,_,rfl,rfl,_,_,rfl,rfl,(by show (0:Int) < 8; decide),_,_,rfl,rfl,?_⟩
   refine ⟨⟨#[97+st]⟩,1+(3*i+hd / 4) % 8,rfl,congrArg V.int e1,by omega,by show 1<=1000; decide,?_⟩
   refine ⟨W,_,_,rfl,rfl,hW8,by rw [List.length_map,List.length_map,List.length_range]; omega,?_⟩
   exact fin _ _ _ _ _ _ (show wA i=wd i by show _=if hd % 4=0 then wA i else wB i; rw [if_pos h4])
  ·rw [show decide (V.int ((hd:Int) % 4)=V.int 0)=false from decide_eq_false (fun z=>h4 (by injection z with z; omega))]
   refine iteF ?_
   have e1:(1:Int)+(hd:Int) / 1248 % 8=(long:Int):=by show _=((1+hd / 1248 % 8:Nat):Int); omega
   refine ⟨_,rfl,_,_,rfl,rfl,⟨by decide,by decide +kernel⟩,_,_,rfl,rfl,(by show (0:Int) < 8; decide),_,_,rfl,rfl,?_⟩
   dsimp only
   rw [e1]
   have e2:(hd:Int) / 9984 % (long:Int)=(place:Int):=by show _=((hd / 9984 % long:Nat):Int); push_cast; rfl
   refine ⟨_,rfl,_,_,rfl,rfl,⟨by decide,by decide +kernel⟩,_,rfl,_,_,rfl,rfl,(by show (0:Int) < (long:Int); omega),?_⟩
   dsimp only
   rw [e2]
   have e3:(hd:Int) / 79872 % 26=((hd / 79872 % 26:Nat):Int):=by omega
   refine ⟨_,rfl,_,rfl,_,_,rfl,rfl,⟨by decide,by decide +kernel⟩,_,_,rfl,rfl,(by show (0:Int) < 26; decide),abc,_,fc,rfl,rfl,z86,?_,?_⟩
   ·show atI abc.cps.toList ((hd:Int) / 79872 % 26)=_
    rw [e3]
    exact z3x (z74 _ (by omega))
   have e4:((st:Int)+(0+(i:Int))*(1+2*((hd:Int) / 8 % 6))) % 26=(((st+i*s2) % 26:Nat):Int):=by
    have:(1+2*((hd:Int) / 8 % 6))=(s2:Int):=by show _=((1+2*(hd / 8 % 6):Nat):Int); omega
    rw [this,Int.zero_add]; push_cast; rfl
   refine ⟨_,rfl,_,rfl,_,rfl,_,rfl,_,_,rfl,rfl,⟨by decide,by decide +kernel⟩,_,_,rfl,rfl,(by show (0:Int) < 6; decide),_,_,rfl,rfl,.inl ⟨by decide,by decide⟩,_,_,rfl,rfl,_,_,rfl,rfl,.inl ⟨by show (-(2 ^ 64):Int) < 0+(i:Int); omega,by show 0+(i:Int) < 2 ^ 64; omega⟩,_,_,rfl,rfl,_,_,rfl,rfl,(by show (0:Int) < 26; decide),abc,_,97+(st+i*s2) % 26,rfl,rfl,z86,?_,?_⟩
   ·show atI abc.cps.toList (((st:Int)+(0+(i:Int))*(1+2*((hd:Int) / 8 % 6))) % 26)=_
    rw [e4]
    exact z3x (z74 _ (by omega))
   have e5:(long:Int)-(place:Int)-1=((long-place-1:Nat):Int):=by omega
   refine ⟨_,rfl,.inl ⟨rfl,_,SqL.of hW8⟩,_,rfl,_,rfl,⟨#[fc]⟩,place,rfl,rfl,by omega,by show 1<=1000; decide,_,rfl,_,_,rfl,rfl,?_,?_⟩
   ·rw [lP.len]; show place+1<=_; omega
   refine ⟨_,rfl,_,rfl,_,rfl,_,_,rfl,rfl,_,_,rfl,rfl,⟨#[fc]⟩,long-place-1,rfl,congrArg V.int e5,by omega,by show 1<=1000; decide,_,_,rfl,rfl,?_,?_⟩
   ·rw [(lP.append (Ltr.one (c:=97+(st+i*s2) % 26) (by omega))).len,lQ.len]; omega
   refine ⟨W,_,_,rfl,rfl,hW8,by rw [List.length_map,List.length_map,List.length_range]; omega,?_⟩
   exact fin _ _ _ _ _ _ (show wB i=wd i by show _=if hd % 4=0 then wA i else wB i; rw [if_neg h4])
 obtain ⟨s8,o6,o7,o8,o9,o10,rfl,hW8⟩:=h2
 have hp8:=hp2.keep s8 (by simpa using pW)
 have s08:SB [p] H H8:=(s02.mono (qs:=[p,W]) (by simp)).trans (s8.mono (by simp)) |>.drop2 nW0
 refine ⟨_,rfl,q W _ H8 s08 hp8 nW0 hW8 (by simp) (fun k hk=>?_) (nodup_range fun i j hi hj hn e=>?_)⟩
 ·obtain ⟨i,hi,rfl⟩:=List.mem_map.mp hk
  show z02 (if hd % 4=0 then wA i else wB i)
  by_cases h4:hd % 4=0
  ·rw [if_pos h4]; exact (lA i).name (by omega) (by omega)
  ·rw [if_neg h4]; exact (lB i).name (by omega) (by omega)
 ·have e:(if hd % 4=0 then wA i else wB i)=(if hd % 4=0 then wA j else wB j):=e
  by_cases h4:hd % 4=0
  ·rw [if_pos h4,if_pos h4] at e
   have e1:=(lA i).1
   rw [e,(lA j).1] at e1
   omega
  ·rw [if_neg h4,if_neg h4] at e
   have e1:=lP.mid (c:=97+(st+i*s2) % 26) (b:=Txt.mul ⟨#[fc]⟩ ((long-place-1:Nat):Int))
   have e2:=lP.mid (c:=97+(st+j*s2) % 26) (b:=Txt.mul ⟨#[fc]⟩ ((long-place-1:Nat):Int))
   have e':Txt.mul ⟨#[fc]⟩ (place:Int)++(⟨#[97+(st+i*s2) % 26]⟩:Str)++Txt.mul ⟨#[fc]⟩ ((long-place-1:Nat):Int)=Txt.mul ⟨#[fc]⟩ (place:Int)++(⟨#[97+(st+j*s2) % 26]⟩:Str)++Txt.mul ⟨#[fc]⟩ ((long-place-1:Nat):Int):=e
   rw [e',e2] at e1
   injection e1 with e1
   have hs:s2=1\/s2=3\/s2=5\/s2=7\/s2=9\/s2=11\/s2=15\/s2=17:=by
    show 1+2*(hd / 8 % 6)=1\/1+2*(hd / 8 % 6)=3\/1+2*(hd / 8 % 6)=5\/1+2*(hd / 8 % 6)=7\/1+2*(hd / 8 % 6)=9\/1+2*(hd / 8 % 6)=11\/_\/_
    omega
   refine hn (zcm (b:=st) hs (by omega) (by omega) ?_)
   rw [Nat.mul_comm s2 i,Nat.mul_comm s2 j]
   omega
abbrev zlt:List Str:=["_law_draws_here","_law_great","_law_figure","_law_far"]
theorem sc_q22:FnScope zlt ["_law_draws_here","_law_great"] (defScope z65):=⟨rfl,rfl,rfl,by decide +kernel,rfl,by decide +kernel,by decide +kernel⟩
theorem zhk (B:BI mg) (G_q24:Got P w K mg base "_law_next" ["_law_draws_here"] (1) (z2k)) (F:Fun K "_law_many" "_law_many" z65 f fd):FnOk P w K mg base CX0 (2) f fd ["_law_draws_here","_law_great"] (z8c):=by
 refine F.ok sc_q22 (fun vs H Q E h=>?_) (fun cdv A outer s H vs Q E hr h=>?_)
 ·obtain ⟨p,g,rfl,_⟩:=h
  rfl
 obtain ⟨p,g,rfl,hp,g9,g60,q⟩:=h
 have hun2:=hunT hr
 refine ⟨_,pss_cons (ps_set (i:=2) sc_q22.nd rfl (.inl rfl) (z00 G_q24 (hr.mono (by omega)) rfl (pa_cons (pv 0) pa_nil)))
  (pss_cons (ps_set (i:=3) sc_q22.nd rfl (.inl rfl) (pe_op op_add (pe_op op_mul (pe_op op_fdivW (pv 2) pe_int) (pe_op op_pow pe_int pe_int)) (z00 G_q24 (hr.mono (by omega)) rfl (pa_cons (pv 0) pa_nil))))
  (pss_cons (ps_set (i:=3) sc_q22.nd rfl (.inl rfl) (pe_op op_add (pe_op op_mul (pv 3) (pe_op op_pow pe_int pe_int)) (pv 3)))
  (pss_one (ps_ret (pe_op op_add pe_int (pe_ix ix_list (pe_lst (pa_cons pe_int (pa_cons (pe_op op_mod (pe_op op_fdivW (pv 2) pe_int) pe_int) (pa_cons (pe_op op_mod (pe_op op_fdivW (pv 2) pe_int) pe_int) (pa_cons (pe_op op_mod (pv 3) (pv 1)) pa_nil))))) (pe_op op_mod (pv 2) pe_int) (fun _ _=>rfl))))))),?_⟩
 refine ⟨_,rfl,p,rfl,hp,fun r1 H1 r10 r1m s1 hp1=>?_⟩
 refine ⟨_,rfl,_,_,rfl,rfl,⟨by decide,by decide +kernel⟩,_,_,rfl,rfl,⟨by decide,by decide,by decide⟩,_,_,rfl,rfl,.inr ⟨by decide,by decide⟩,?_⟩
 refine ⟨_,rfl,p,rfl,hp1,fun r2 H2 r20 r2m s2 hp2=>?_⟩
 refine ⟨_,_,rfl,rfl,?_⟩
 refine ⟨_,rfl,_,_,rfl,rfl,⟨by decide,by decide,by decide⟩,_,_,rfl,rfl,.inr ⟨by decide,by decide⟩,_,rfl,_,_,rfl,rfl,?_⟩
 dsimp only
 generalize (r1 / 4*10 ^ (9:Int).toNat+r2)*10 ^ (18:Int).toNat+(r1 / 4*10 ^ (9:Int).toNat+r2)=far
 refine ⟨_,rfl,_,_,rfl,rfl,⟨by decide,by decide +kernel⟩,_,_,rfl,rfl,(by show (0:Int) < 3; decide),?_⟩
 refine ⟨_,rfl,_,_,rfl,rfl,⟨by decide,by decide +kernel⟩,_,_,rfl,rfl,(by show (0:Int) < 9; decide),?_⟩
 refine ⟨_,rfl,_,rfl,_,_,rfl,rfl,(by show (0:Int) < g; omega),?_⟩
 refine ⟨by show 4<=sizeLine; decide,fun L nL=>?_⟩
 refine ⟨_,rfl,_,_,rfl,rfl,(by show (0:Int) < 4; decide),?_⟩
 obtain ⟨z,hz,z0,zm⟩:∃ z:Int,atI [V.int 0,.int (r1 / 4 % 3),.int (r1 / 4 % 9),.int (far % g)] (r1 % 4)=some (.int z)/\0<=z/\z<=g-1:=by
  have:r1 % 4=0\/r1 % 4=1\/r1 % 4=2\/r1 % 4=3:=by omega
  rcases this with h | h | h | h <;> rw [h]
  ·exact ⟨0,rfl,by omega,by omega⟩
  ·exact ⟨_,rfl,by omega,by omega⟩
  ·exact ⟨_,rfl,by omega,by omega⟩
  ·refine ⟨_,rfl,Int.emod_nonneg _ (by omega),?_⟩
   have:=Int.emod_lt_of_pos far (show 0 < g by omega)
   omega
 refine ⟨L,_,_,_,rfl,rfl,SqL.of upd_same,hz,?_⟩
 refine ⟨_,_,rfl,rfl,?_⟩
 have t3:=SB.new (ps:=[]) nL (.lst [V.int 0,.int (r1 / 4 % 3),.int (r1 / 4 % 9),.int (far % g)])
 exact q (1+z) _ (by omega) (by omega) ((s1.trans s2).trans t3.nil) (hp2.sb t3)
abbrev zay:List Str:=["_law_draws_here","_law_names_here","_law_room","_law_great","_law_some","_law_left","_law_kind","_law_inner","_law_tree","_law_many_here","_law_one","_law_old","_law_pair"]
theorem sc_q17:FnScope zay ["_law_draws_here","_law_names_here","_law_room","_law_great"] (defScope z30):=⟨rfl,rfl,rfl,by decide +kernel,rfl,by decide +kernel,by decide +kernel⟩
theorem zdd {ps:List Str} {k:Nat}:FnOk P w K mg base CX0 k f fd ps (z0v K 0):=z0o fun vs H Q E ⟨p,nl,ks,room,g,_,_,_,h,_⟩=>by omega
theorem zjm {n:Nat} (B:BI mg) (G_q24:Got P w K mg base "_law_next" ["_law_draws_here"] (1) (z2k)) (G_q17:Got P w K mg base "_law_grove" ["_law_draws_here","_law_names_here","_law_room","_law_great"] (n+2) (z0v K n)) (G_q22:Got P w K mg base "_law_many" ["_law_draws_here","_law_great"] (2) (z8c)) (F:Fun K "_law_grove" "_law_grove" z30 f fd):FnOk P w K mg base CX0 (n+3) f fd ["_law_draws_here","_law_names_here","_law_room","_law_great"] (z0v K (n+1)):=by
 refine F.ok sc_q17 (fun vs H Q E h=>?_) (fun cdv A outer s H vs Q E hr h=>?_)
 ·obtain ⟨p,nl,ks,room,g,rfl,_⟩:=h
  rfl
 obtain ⟨p,nl,ks,room,g,rfl,hp,⟨hn,np,kl,kok⟩,hr',r10,g9,g60,q⟩:=h
 have hun2:=hunT hr
 refine ⟨_,pss_cons (ps_set (i:=4) sc_q17.nd rfl (.inl rfl) (pe_lst pa_nil))
  (pss_cons (ps_set (i:=5) sc_q17.nd rfl (.inl rfl) (pv 2))
  (pss_cons (ps_while PassesOwn.never (PW.pt (pw_and (pt_cmpR op_gt (pv 5) pe_int (nomark _)) (pw_and1 (pt_cmpR (op_neD (by show A.units+3+64 < cLine; omega)) (pv 1) (pe_lst pa_nil) (nomark _))))) (pss_cons (ps_set (i:=6) sc_q17.nd rfl (.inl rfl) (pe_ix ix_list (pv 1) (pe_op op_mod (z00 G_q24 (hr.mono (by omega)) rfl (pa_cons (pv 0) pa_nil)) (pe_callB call_len_seq rfl B.len PySem.boot_len (pa_cons (pv 1) pa_nil))) (fun _ _=>rfl)))
  (pss_cons (ps_set (i:=7) sc_q17.nd rfl (.inl rfl) (pe_op op_mod (z00 G_q24 (hr.mono (by omega)) rfl (pa_cons (pv 0) pa_nil)) (pv 5)))
  (pss_cons (ps_set (i:=8) sc_q17.nd rfl (.inr rfl) (pe_tup (pa_cons (pv 6) (pa_cons (z00 G_q17 (hr.mono (by omega)) rfl (pa_cons (pv 0) (pa_cons (pv 1) (pa_cons (pv 7) (pa_cons (pv 3) pa_nil))))) pa_nil))))
  (pss_cons (ps_set (i:=9) sc_q17.nd rfl (.inl rfl) (pe_op op_add (z00 G_q22 (hr.mono (by omega)) rfl (pa_cons (pv 0) (pa_cons (pv 3) pa_nil))) (pe_callB (cr_sum rfl) rfl B.sum boot_sum (pa_cons (pe_lc (own:=[("_law_one",10),("_law_old",11)]) (g:=(gTup K 2 (gCons (gName 10) (gCons (gName 11) gNil)))) (tt:=(tTest (tOp (rEqD K) (tVar 10) (tVar 8)))) (te:=(tVar 11)) rfl sc_q17.nd (pi_list (pv 4)) (blkOk_by (N:=zay) (sc:=defScope z30) (by decide +kernel)) (fun _ _ _ _ _=>(pg_tup rfl (pgs_cons (pg_name (i:=10) sc_q17.nd rfl (.inl rfl)) (pgs_cons (pg_name (i:=11) sc_q17.nd rfl (.inl rfl)) pgs_nil)))) (fun _ _ _ _ _=>(pts_one (pt_cmpR (op_eqD (by show A.units+3+64 < cLine; omega)) (pv 10) (pv 8) (nomark _)))) (fun _ _ _ _ _=>(pv 11))) pa_nil))))
  (pss_cons (ps_set (i:=4) sc_q17.nd rfl (.inl rfl) (pe_op op_cat (pe_lc (own:=[("_law_pair",12)]) (g:=(gName 12)) (tt:=(tTest (tOp (rNeD K) (tOp (rIxT K) (tVar 12) (tC (.int 0))) (tVar 8)))) (te:=(tVar 12)) rfl sc_q17.nd (pi_list (pv 4)) (blkOk_by (N:=zay) (sc:=defScope z30) (by decide +kernel)) (fun _ _ _ _ _=>(pg_name (i:=12) sc_q17.nd rfl (.inl rfl))) (fun _ _ _ _ _=>(pts_one (pt_cmpR (op_neD (by show A.units+3+64 < cLine; omega)) (pe_ix ix_tup (pv 12) pe_int (fun _ _=>rfl)) (pv 8) (nomark _)))) (fun _ _ _ _ _=>(pv 12))) (pe_lst (pa_cons (pe_tup (pa_cons (pv 8) (pa_cons (pv 9) pa_nil))) pa_nil))))
  (pss_one (ps_set (i:=5) sc_q17.nd rfl (.inl rfl) (pe_op op_sub (pe_op op_sub (pv 5) pe_int) (pv 7))))))))))
  (pss_one (ps_ret (pe_callTy call_tuple_of rfl B.tuple boot_tuple (pa_cons (pe_callB (zb1 Gr.pEnc (by show A.units+3+110 < cLine; omega)) rfl B.sorted (by decide +kernel) (pa_cons (pv 4) pa_nil)) pa_nil)))))),?_⟩
 have szl:=sizeLine_eq
 refine ⟨by show 0<=sizeLine; decide,fun W0 nW0=>?_⟩
 have t1:=SB.new (ps:=[]) nW0 (.lst [])
 have hW1:upd H W0 (.lst []) W0=some (.lst []):=upd_same
 have hp1:=hp.sb t1
 have hn1:=t1.keep _ _ hn nmn
 have pW0:=hp.ne nW0
 generalize upd H W0 (.lst [])=H1 at t1 hW1 hp1 hn1
 refine ⟨_,rfl,?_⟩
 dsimp only
 refine z8d (fun σ' H9=>SB [p] H H9/\Dr H9 p/\∃ (W:Addr) (us:List V) (bs:List (Tr × Int)) (lf:Int) (o6 o7 o8 o9 o10 o11 o12:Option V),σ'=[some (.ref p),some (.ref nl),some (.int (room:Int)),some (.int g),some (.ref W),some (.int lf),o6,o7,o8,o9,o10,o11,o12]/\H9 W=some (.lst us)/\Bears K H9 Gr.pEnc us bs/\bs.Pairwise (fun p q=>p.1 ≠ q.1)/\(∀ x ∈ bs,x.1.1 ∈ ks/\x.1.2.Ok (room*g+1)/\1<=x.2/\x.1.2.deep < room/\Gr.Named ks x.1.2)/\allE bs<=room*g/\Gr.tot bs<=room) (fun nx hnx=>?_) (fun σ' H9 h=>?_)
 ·refine ⟨fun mm σ H5=>∃ (W:Addr) (us:List V) (bs:List (Tr × Int)) (o6 o7 o8 o9 o10 o11 o12:Option V),σ=[some (.ref p),some (.ref nl),some (.int (room:Int)),some (.int g),some (.ref W),some (.int (mm:Int)),o6,o7,o8,o9,o10,o11,o12]/\SB [p] H H5/\Dr H5 p/\(H W=none/\W ≠ p/\W ≠ nl)/\H5 W=some (.lst us)/\Bears K H5 Gr.pEnc us bs/\bs.Pairwise (fun p q=>p.1 ≠ q.1)/\(∀ x ∈ bs,x.1.1 ∈ ks/\x.1.2.Ok (room*g+1)/\1<=x.2/\x.1.2.deep < room/\Gr.Named ks x.1.2)/\allE bs<=(room-mm:Int)*g/\Gr.tot bs+mm<=room/\mm<=room,⟨room,W0,[],[],_,_,_,_,_,_,_,rfl,t1.nil,hp1,⟨nW0,fun z=>pW0 z.symm,fun z=>by rw [z,hn] at nW0; cases nW0⟩,hW1,.nil,List.Pairwise.nil,by simp,by simp [allE],by show 0+room<=room; omega,Nat.le_refl _⟩,fun mm σ H5 hW=>?_⟩
  obtain ⟨W,us,bs,o6,o7,o8,o9,o10,o11,o12,rfl,s5,hp5,⟨nW,Wp,Wnl⟩,hW5,hb5,pw,hbs,hall,htot,hmm⟩:=hW
  have exit:nx [some (.ref p),some (.ref nl),some (.int (room:Int)),some (.int g),some (.ref W),some (.int (mm:Int)),o6,o7,o8,o9,o10,o11,o12] H5:=hnx _ _ ⟨s5,hp5,W,us,bs,_,_,_,_,_,_,_,_,rfl,hW5,hb5,pw,hbs,Int.le_trans hall (Int.mul_le_mul_of_nonneg_right (by omega) (by omega)),by omega⟩
  refine ⟨_,rfl,_,_,rfl,rfl,_,rfl,?_⟩
  by_cases h0:0 < mm
  ·rw [decide_eq_true (show (0:Int) < (mm:Int) by omega)]
   refine iteT ?_
   have hn5:=s5.keep _ _ hn (by simpa using np)
   refine ⟨_,rfl,by show 0<=sizeLine; decide,fun z nz=>?_⟩
   have t6:=SB.new (ps:=[]) nz (.lst [])
   have hz6:upd H5 z (.lst []) z=some (.lst []):=upd_same
   have hn6:=t6.keep _ _ hn5 nmn
   refine ⟨.list (ks.map PyData.str),.list [],Dp.lst (SqL.of hn6) (z7d (z7r ks)),Dp.lst (SqL.of hz6) .nil,z9a kok,by decide +kernel,_,rfl,?_⟩
   have hp6:=hp5.sb t6
   have hW6:=t6.keep _ _ hW5 nmn
   have hb6:=hb5.sb t6 Gr.noList_pEnc
   have s6:=s5.trans (t6.nil (ps:=[p]))
   by_cases hk:ks=[]
   ·rw [hk]
    refine iteF ?_
    exact hnx _ _ ⟨s6,hp6,W,us,bs,_,_,_,_,_,_,_,_,rfl,hW6,hb6,pw,hbs,Int.le_trans hall (Int.mul_le_mul_of_nonneg_right (by omega) (by omega)),by omega⟩
   rw [show (!PyData.eqv (.list (ks.map PyData.str)) (.list []))=true by cases ks with
    | nil=>exact absurd rfl hk
    | cons _ _=>simp [PyData.eqv,PyData.eqvAll]]
   refine iteT ⟨_,fun σ' H' h=>h,?_⟩
   generalize upd H5 z (.lst [])=H6 at t6 hz6 hn6 hp6 hW6 hb6 s6
   have kpos:0 < ks.length:=List.length_pos_iff.mpr hk
   refine ⟨_,rfl,_,rfl,p,rfl,hp6,fun r1 H7 r10' r1m s7 hp7=>?_⟩
   have hn7:=s7.keep _ _ hn6 (by simpa using np)
   have hW7:=s7.keep _ _ hW6 (by simpa using Wp)
   have hb7:=hb6.sb s7 Gr.noList_pEnc
   refine ⟨_,rfl,nl,_,rfl,.inl (SqL.of hn7),_,_,rfl,rfl,(by show (0:Int) < ((ks.map V.str).length:Int); rw [List.length_map]; omega),?_⟩
   dsimp only
   rw [List.length_map]
   obtain ⟨kn,hkn,hkm⟩:∃ kn,atI (ks.map V.str) (r1 % (ks.length:Int))=some (.str kn)/\kn ∈ ks:=by
    have h1:=Int.emod_nonneg r1 (show (ks.length:Int) ≠ 0 by omega)
    have h2:=Int.emod_lt_of_pos r1 (show (0:Int) < (ks.length:Int) by omega)
    obtain ⟨u,hu⟩:∃ u:Nat,r1 % (ks.length:Int)=(u:Int):=⟨_,(Int.toNat_of_nonneg h1).symm⟩
    rw [hu] at h2 ⊢
    have hu2:u < ks.length:=by omega
    refine ⟨ks[u],atI_nat (j:=u) ?_,List.getElem_mem hu2⟩
    rw [List.getElem?_map,List.getElem?_eq_getElem hu2]; rfl
   refine ⟨nl,_,_,_,rfl,rfl,SqL.of hn7,hkn,?_⟩
   refine ⟨_,rfl,p,rfl,hp7,fun r2 H8 r20 r2m s8 hp8=>?_⟩
   refine ⟨_,rfl,_,_,rfl,rfl,(by show (0:Int) < (mm:Int); omega),?_⟩
   dsimp only
   obtain ⟨inn,ein,hin⟩:∃ u:Nat,r2 % (mm:Int)=(u:Int)/\u < mm:=by
    have h1:=Int.emod_nonneg r2 (show (mm:Int) ≠ 0 by omega)
    have h2:=Int.emod_lt_of_pos r2 (show (0:Int) < (mm:Int) by omega)
    exact ⟨(r2 % (mm:Int)).toNat,(Int.toNat_of_nonneg h1).symm,by omega⟩
   rw [ein]
   have hn8:=s8.keep _ _ hn7 (by simpa using np)
   refine ⟨_,rfl,_,rfl,_,rfl,_,rfl,_,rfl,p,nl,ks,inn,g,rfl,hp8,⟨hn8,np,kl,kok⟩,by omega,by omega,g9,g60,fun gv t H9 s9 hp9 hgv tok tpt tdp tnm=>?_⟩
   have hn9:=s9.keep _ _ hn8 (by simpa using np)
   have g0:(0:Int)<=g:=by omega
   have tok2:t.Ok (room*g+1):=tok.mono (by
    have:=Int.mul_le_mul_of_nonneg_right (show (inn:Int)<=(room:Int) by omega) g0
    omega)
   refine ⟨by show 2<=sizeLine; decide,fun tr ntr=>?_⟩
   have t10:=SB.new (ps:=[]) ntr (.tup [.str kn,gv])
   have htr:upd H9 tr (.tup [.str kn,gv]) tr=some (.tup [.str kn,gv]):=upd_same
   have hp10:=hp9.sb t10
   have hn10:=t10.keep _ _ hn9 nmn
   have hgv10:=hgv.sb t10
   have s710:SB [p] H6 (upd H9 tr (.tup [.str kn,gv])):=((s7.trans s8).trans s9).trans t10.nil
   generalize upd H9 tr (.tup [.str kn,gv])=H10 at t10 htr hp10 hn10 hgv10 s710
   have hdt:Dp K H10 (.ref tr) (Gr.tEnc (kn,t)):=Dp.tup (SqT.of htr) (.cons (.str _) (.cons hgv10 .nil))
   refine ⟨_,rfl,_,rfl,p,g,rfl,hp10,g9,g60,fun nm H11 n1 ng s11 hp11=>?_⟩
   have s611:=s710.trans s11
   have hW11:=s611.keep _ _ hW6 (by simpa using Wp)
   have hb11:=hb6.sb s611 Gr.noList_pEnc
   have hdt11:=z01 s11 _ _ (Gr.noList_tEnc _) hdt
   have ul:=hb11.length
   have lt:=Gr.len_tot bs
   have sht:SeqAt.shaped (Gr.tEnc (kn,t))=true:=Gr.shaped_tEnc (kok kn hkm) tok (by show t.deep<=20; omega)
   have shb:∀ x ∈ bs,SeqAt.shaped (Gr.tEnc x.1)=true:=fun x hx=>Gr.shaped_tEnc (kok _ (hbs x hx).1) (hbs x hx).2.1 (by have:=(hbs x hx).2.2.2.1; omega)
   refine ⟨_,rfl,W,rfl,⟨_,SqL.of hW11⟩,fun D nD=>?_⟩
   refine z11 (walk_list (xs:=us)) nD (by omega) (fun i ws _=>ws=(((bs.take i).filter fun x=>decide (x.1=(kn,t))).map (·.2)).map V.int) rfl (fun H2 s2=>s2.sqL nmn (SqL.of hW11)) (fun _ _ _ _ _ h=>h) (fun Pv i x Hq H2 ws hi s2 y hR hu fin skip=>?_) (fun ws H12 s12 hD12 hR hu=>?_)
   ·obtain ⟨rfl,ey⟩:=y
    obtain ⟨x0,ex,hpd⟩:=hb11.get ey
    obtain ⟨ad,td,ux,rfl,hs2,hs3,hga,htd⟩:=z0h hpd
    refine ⟨ad,_,rfl,s2.sqT hs2,rfl,_,_,rfl,_,_,rfl,rfl,rfl,?_⟩
    refine ⟨_,rfl,_,rfl,Gr.tEnc x0.1,Gr.tEnc (kn,t),z01 s2 _ _ (Gr.noList_tEnc _) htd,z01 s2 _ _ (Gr.noList_tEnc _) hdt11,shb x0 (List.mem_of_getElem? ex),sht,_,rfl,?_⟩
    rw [Orderly.eq (enc:=Gr.tEnc)]
    by_cases he:x0.1=(kn,t)
    ·rw [decide_eq_true he]
     refine iteT ⟨_,rfl,fin _ _ SB.refl ?_⟩
     rw [hR,List.take_add_one,ex]
     simp [he]
    ·rw [decide_eq_false he]
     refine iteF (skip _ SB.refl ?_)
     rw [hR,List.take_add_one,ex]
     simp [he]
   rw [ul,List.take_length] at hR
   subst hR
   refine ⟨D,_,rfl,SqL.of hD12,?_⟩
   refine ⟨_,_,rfl,rfl,?_⟩
   dsimp only
   have esum:=z7o (kn,t) bs
   rw [esum]
   have s612:=s611.trans (s12.nil (ps:=[p]))
   have hW12:=s12.keep _ _ hW11 nmn
   have hb12:=hb11.sb s12 Gr.noList_pEnc
   have hdt12:=z01 s12 _ _ (Gr.noList_tEnc _) hdt11
   have hp12:=hp11.sb s12
   refine ⟨_,rfl,W,rfl,⟨_,SqL.of hW12⟩,fun D2 nD2=>?_⟩
   refine z11 (walk_list (xs:=us)) nD2 (by omega) (fun i ws H2=>Bears K H2 Gr.pEnc ws ((bs.take i).filter fun x=>decide (x.1 ≠ (kn,t)))) .nil (fun H2 s2=>s2.sqL nmn (SqL.of hW12)) (fun _ _ _ _ s h=>h.sb s Gr.noList_pEnc) (fun Pv i x Hq H2 ws hi s2 y hR hu fin skip=>?_) (fun ws H13 s13 hD13 hR hu=>?_)
   ·obtain ⟨rfl,ey⟩:=y
    obtain ⟨x0,ex,hpd⟩:=hb12.get ey
    obtain ⟨ad,td,ux,rfl,hs2,hs3,hga,htd⟩:=z0h hpd
    refine ⟨rfl,?_⟩
    refine ⟨_,rfl,ad,_,_,.ref td,rfl,rfl,s2.sqT hs2,rfl,_,rfl,Gr.tEnc x0.1,Gr.tEnc (kn,t),z01 s2 _ _ (Gr.noList_tEnc _) htd,z01 s2 _ _ (Gr.noList_tEnc _) hdt12,shb x0 (List.mem_of_getElem? ex),sht,_,rfl,?_⟩
    rw [Orderly.eq (enc:=Gr.tEnc)]
    by_cases he:x0.1=(kn,t)
    ·rw [decide_eq_true he]
     refine iteF (skip _ SB.refl ?_)
     rw [List.take_add_one,ex]
     simpa [he] using hR
    ·rw [decide_eq_false he]
     refine iteT ⟨_,rfl,fin _ _ SB.refl ?_⟩
     rw [List.take_add_one,ex,List.filter_append]
     have:(List.filter (fun x=>decide (x.1 ≠ (kn,t))) (some x0).toList)=[x0]:=by simp [he]
     rw [this]
     exact hR.append (.cons (z01 s2 _ _ (Gr.noList_pEnc _) hpd) .nil)
   rw [ul,List.take_length] at hR
   refine ⟨_,rfl,_,rfl,by show 2<=sizeLine; decide,fun pr npr=>?_⟩
   have t14:=SB.new (ps:=[]) npr (.tup [.ref tr,.int (nm+sumE bs (kn,t))])
   have hpr:upd H13 pr (.tup [.ref tr,.int (nm+sumE bs (kn,t))]) pr=some (.tup [.ref tr,.int (nm+sumE bs (kn,t))]):=upd_same
   have hR14:=hR.sb t14 Gr.noList_pEnc
   have hD14:=t14.keep _ _ hD13 nmn
   have hdt14:=z01 (s13.trans t14) _ _ (Gr.noList_tEnc _) hdt12
   have hp14:=hp12.sb (s13.trans t14)
   have s614:SB [p] H6 (upd H13 pr (.tup [.ref tr,.int (nm+sumE bs (kn,t))])):=s612.trans (s13.trans t14).nil
   generalize upd H13 pr (.tup [.ref tr,.int (nm+sumE bs (kn,t))])=H14 at t14 hpr hR14 hD14 hdt14 hp14 s614
   have hpair:Dp K H14 (.ref pr) (Gr.pEnc ((kn,t),nm+sumE bs (kn,t))):=z1g (enc:=Gr.tEnc) (g:=(kn,t)) (SqT.of hpr) hdt14
   refine ⟨by show 1<=sizeLine; decide,fun L2 nL2=>?_⟩
   have t15:=SB.new (ps:=[]) nL2 (.lst [.ref pr])
   have hL2:upd H14 L2 (.lst [.ref pr]) L2=some (.lst [.ref pr]):=upd_same
   have hD15:=t15.keep _ _ hD14 nmn
   have wl:=hR.length
   have fl:=List.length_filter_le (fun x:Tr × Int=>decide (x.1 ≠ (kn,t))) bs
   refine ⟨D2,L2,_,_,rfl,rfl,hD15,hL2,by rw [wl,List.length_singleton]; omega,fun L3 nL3=>?_⟩
   have t16:=SB.new (ps:=[]) nL3 (.lst (ws++[.ref pr]))
   have s616:=s614.trans (t15.trans t16).nil
   have s016:=s6.trans s616
   have el:(mm:Int)-1-(inn:Int)=((mm-1-inn:Nat):Int):=by omega
   refine ⟨_,rfl,_,_,rfl,rfl,_,rfl,_,_,rfl,rfl,?_⟩
   dsimp only
   rw [el]
   have nL30:H L3=none:=(s6.trans (s614.trans t15.nil)).dom _ nL3
   refine ⟨mm-1-inn,by omega,L3,_,(bs.filter fun x=>decide (x.1 ≠ (kn,t)))++[((kn,t),nm+sumE bs (kn,t))],_,_,_,_,_,_,_,rfl,s016,hp14.sb (t15.trans t16),⟨nL30,(fun z=>hp.ne nL30 z.symm),fun z=>by rw [z,hn] at nL30; cases nL30⟩,upd_same,?_,?_,?_,?_,?_,by omega⟩
   ·exact (hR14.append (.cons hpair .nil)).sb (t15.trans t16) Gr.noList_pEnc
   ·refine List.pairwise_append.mpr ⟨pw.filter _,List.pairwise_singleton _ _,fun x hx y hy=>?_⟩
    rw [List.mem_singleton.mp hy]
    have:=(List.mem_filter.mp hx).2
    simpa using this
   ·intro x hx
    rcases List.mem_append.mp hx with hx | hx
    ·exact hbs x (List.mem_filter.mp hx).1
    ·rw [List.mem_singleton.mp hx]
     have s0:0<=sumE bs (kn,t):=z6y _ fun y hy=>(hbs y hy).2.2.1
     exact ⟨hkm,tok2,by show 1<=nm+_; omega,by show t.deep < room; omega,tnm⟩
   ·have ea:allE ((bs.filter fun x=>decide (x.1 ≠ (kn,t)))++[((kn,t),nm+sumE bs (kn,t))])=allE bs+nm:=by
     rw [z1b]
     show allE _+(nm+sumE bs (kn,t)+0)=_
     have:=za1 (kn,t) bs
     omega
    rw [ea]
    have h1:((room:Int)-mm)*g+g=((room:Int)-mm+1)*g:=by rw [Int.add_mul,Int.one_mul]
    have h2:((room:Int)-mm+1)*g<=((room:Int)-((mm-1-inn:Nat):Int))*g:=Int.mul_le_mul_of_nonneg_right (by omega) g0
    exact Int.le_trans (Int.le_trans (Int.add_le_add hall ng) (Int.le_of_eq h1)) h2
   ·rw [Gr.tot_append]
    show Gr.tot _+(1+t.parts+0)+_<=_
    have:=za2 (fun x=>decide (x.1 ≠ (kn,t))) bs
    omega
  ·rw [decide_eq_false (show ¬ (0:Int) < (mm:Int) by omega)]
   exact iteF (iteF exit)
 ·obtain ⟨s9,hp9,W,us,bs,lf,o6,o7,o8,o9,o10,o11,o12,rfl,hW9,hb9,pw,hbs,hall,htot⟩:=h
  have lt:=Gr.len_tot bs
  refine ⟨_,rfl,W,us,bs,rfl,.inl (SqL.of hW9),hb9,Gr.pEnc_all _,Gr.pEnc_sortable _,by omega,fun x hx=>?_,fun a ys na hys=>?_⟩
  ·have e1:=Gr.pEnc_depth x
   have e2:=(hbs x hx).2.2.2.1
   omega
  have u1:=SB.new (ps:=[]) na (.lst ys)
  refine ⟨a,ys,rfl,.inl ⟨SqL.of upd_same,fun kt nkt=>?_⟩⟩
  have u2:=SB.new (ps:=[]) nkt (.tup ys)
  have et:Gr.tidy bs=Gr.ofPs (srtE Gr.pEnc bs):=by unfold Gr.tidy; rw [(Gr.tdy_self pw).2]
  refine q _ (Gr.tidy bs) _ (s9.trans (u1.trans u2).nil) (hp9.sb (u1.trans u2)) ?_ (Gr.tidy_ok (C:=room*g+1) (fun x hx=>⟨kok _ (hbs x hx).1,(hbs x hx).2.1,(hbs x hx).2.2.1⟩) (by omega) (by omega)) (Nat.le_trans (Gr.tidy_parts bs) htot) (Gr.tidy_deep fun x hx=>(hbs x hx).2.2.2.1) ?_
  ·rw [et]
   exact z2n (SqT.of upd_same) (hys.sb (u1.trans u2) Gr.noList_pEnc)
  ·refine Gr.named_iff.mpr fun x hx=>?_
   unfold Gr.tidy at hx
   rw [Gr.ps_ofPs] at hx
   obtain ⟨y,hy,e⟩:=z2i (enc:=Gr.tEnc) bs x hx
   rw [<- e]
   exact ⟨(hbs y hy).1,(hbs y hy).2.2.2.2⟩
abbrev zlr:List Str:=["_law_draws_here","_law_names_here","_law_rounds","_law_kinds_here","_law_most","_law_k","_law_name","_law_some","_law_rules","_law_rule","_law_room","_law_once"]
theorem sc_q19:FnScope zlr ["_law_draws_here","_law_names_here","_law_rounds"] (defScope z5w):=⟨rfl,rfl,rfl,by decide +kernel,rfl,by decide +kernel,by decide +kernel⟩
theorem zih (B:BI mg) (G_q24:Got P w K mg base "_law_next" ["_law_draws_here"] (1) (z2k)) (G_q17:Got P w K mg base "_law_grove" ["_law_draws_here","_law_names_here","_law_room","_law_great"] (13) (z0v K 11)) (F:Fun K "_law_kinds" "_law_kinds" z5w f fd):FnOk P w K mg base CX0 (15) f fd ["_law_draws_here","_law_names_here","_law_rounds"] (z7m K):=by
 refine F.ok sc_q19 (fun vs H Q E h=>?_) (fun cdv A outer s H vs Q E hr h=>?_)
 ·obtain ⟨p,nl,ks,rounds,rfl,_⟩:=h
  rfl
 obtain ⟨p,nl,ks,rounds,rfl,hp,⟨hn,np,kl,kok,knd,kne⟩,q⟩:=h
 have hun2:=hunT hr
 refine ⟨_,pss_cons (ps_set (i:=3) sc_q19.nd rfl (.inl rfl) (pe_lst pa_nil))
  (pss_cons (ps_set (i:=4) sc_q19.nd rfl (.inl rfl) (pe_ix ix_list (pe_lst (pa_cons pe_int (pa_cons pe_int pa_nil))) (pe_callTy call_int1 rfl B.int boot_int (pa_cons (pe_cmpR op_gt (pe_callB call_len_seq rfl B.len PySem.boot_len (pa_cons (pv 1) pa_nil)) pe_int (nomark _)) pa_nil)) (fun _ _=>rfl)))
  (pss_cons (ps_for PassesOwn.never rfl (pi_enum rfl B.enumerate (pa_cons (pv 1) pa_nil)) (pg_tup rfl (pgs_cons (pg_name (i:=5) sc_q19.nd rfl (.inl rfl)) (pgs_cons (pg_name (i:=6) sc_q19.nd rfl (.inl rfl)) pgs_nil)))
   (pss_cons (ps_set (i:=7) sc_q19.nd rfl (.inl rfl) (pe_slice sl_list (pv 1) po_none (po_some (pv 5))))
  (pss_cons (ps_if (pt_val (pv 2)) (pss_one (ps_set (i:=7) sc_q19.nd rfl (.inl rfl) (pv 1))) pss_nil)
  (pss_cons (ps_set (i:=8) sc_q19.nd rfl (.inl rfl) (pe_lst pa_nil))
  (pss_cons (ps_for PassesOwn.never rfl (pi_range1 rfl B.range (pa_cons (pe_op op_mod (z00 G_q24 (hr.mono (by omega)) rfl (pa_cons (pv 0) pa_nil)) (pe_op op_add pe_int (pv 4))) pa_nil)) (pg_name (i:=9) sc_q19.nd rfl (.inl rfl))
   (pss_cons (ps_set (i:=10) sc_q19.nd rfl (.inl rfl) (pe_op op_mod (z00 G_q24 (hr.mono (by omega)) rfl (pa_cons (pv 0) pa_nil)) (pe_op op_add (pv 4) pe_int)))
  (pss_cons (ps_set (i:=11) sc_q19.nd rfl (.inl rfl) (z00 G_q17 (hr.mono (by omega)) rfl (pa_cons (pv 0) (pa_cons (pv 7) (pa_cons (pv 10) (pa_cons (pe_op op_pow pe_int pe_int) pa_nil))))))
  (pss_one (ps_expr (pe_bm PySem.F.plainAttrs_list PySem.F.slot_list_append PySem.F.type_list_append mt_append (pv 8) (pa_cons (pe_tup (pa_cons (pv 11) (pa_cons (z00 G_q17 (hr.mono (by omega)) rfl (pa_cons (pv 0) (pa_cons (pv 7) (pa_cons (pe_op op_sub (pv 4) (pv 10)) (pa_cons (pe_op op_pow pe_int pe_int) pa_nil))))) pa_nil))) pa_nil)))))))
  (pss_one (ps_expr (pe_bm PySem.F.plainAttrs_list PySem.F.slot_list_insert PySem.F.type_list_insert mt_insert (pv 3) (pa_cons (pe_op op_mod (z00 G_q24 (hr.mono (by omega)) rfl (pa_cons (pv 0) pa_nil)) (pe_op op_add (pv 5) pe_int)) (pa_cons (pe_tup (pa_cons (pv 6) (pa_cons (pe_cmpR op_eq (pe_op op_mod (z00 G_q24 (hr.mono (by omega)) rfl (pa_cons (pv 0) pa_nil)) pe_int) pe_int (nomark _)) (pa_cons (pv 8) pa_nil)))) pa_nil))))))))))
  (pss_one (ps_ret (pv 3))))),?_⟩
 have szl:=sizeLine_eq
 have nlK:=kne
 refine ⟨by show 0<=sizeLine; decide,fun K0 nK0=>?_⟩
 have t1:=SB.new (ps:=[]) nK0 (.lst [])
 have hK1:upd H K0 (.lst []) K0=some (.lst []):=upd_same
 have hp1:=hp.sb t1
 have hn1:=t1.keep _ _ hn nmn
 have pK0:=hp.ne nK0
 have nK:nl ≠ K0:=ne_of_none hn nK0
 generalize upd H K0 (.lst [])=H1 at t1 hK1 hp1 hn1
 refine ⟨by show 2<=sizeLine; decide,fun M nM=>?_⟩
 have t2:=SB.new (ps:=[]) nM (.lst [.int 3,.int 2])
 have hM2:upd H1 M (.lst [.int 3,.int 2]) M=some (.lst [.int 3,.int 2]):=upd_same
 have hp2:=hp1.sb t2
 have hn2:=t2.keep _ _ hn1 nmn
 have hK2:=t2.keep _ _ hK1 nmn
 have s02:=t1.trans t2
 generalize upd H1 M (.lst [.int 3,.int 2])=H2 at t2 hM2 hp2 hn2 hK2 s02
 refine ⟨_,rfl,nl,_,rfl,.inl (SqL.of hn2),_,_,rfl,rfl,.inr ⟨_,rfl,?_⟩⟩
 rw [List.length_map]
 obtain ⟨most,hmost,hz⟩:∃ most:Nat,most=(if ks.length > 3 then 2 else 3)/\atI [V.int 3,.int 2] (if decide ((3:Int) < (ks.length:Int))=true then 1 else 0)=some (.int (most:Int)):=by
  by_cases h3:ks.length > 3
  ·refine ⟨2,by rw [if_pos h3],?_⟩
   rw [decide_eq_true (show (3:Int) < (ks.length:Int) by omega)]; rfl
  ·refine ⟨3,by rw [if_neg h3],?_⟩
   rw [decide_eq_false (show ¬ (3:Int) < (ks.length:Int) by omega)]; rfl
 have m23:most=2\/most=3:=by rw [hmost]; split <;> omega
 refine ⟨M,_,_,_,rfl,rfl,SqL.of hM2,hz,?_⟩
 refine ⟨_,rfl,nl,_,rfl,SqL.of hn2,?_⟩
 let goodR:Str->Ru->Prop:=fun n r=>r.1.Ok (3*10 ^ 8+1)/\r.2.Ok (3*10 ^ 8+1)/\r.1.parts+r.2.parts<=most/\Gr.Named ks r.1/\Gr.Named ks r.2/\(rounds=false->∀ j,ks[j]?=some n->Gr.Named (ks.take j) r.1/\Gr.Named (ks.take j) r.2)
 refine for_it (walk_enum (K:=K) (a:=nl) (xs:=ks.map V.str)) (fun i σ H3=>SB [K0,p] H2 H3/\Dr H3 p/\∃ (xs:List V) (b:Bk) (o5 o6 o7 o8 o9 o10 o11:Option V),σ=[some (.ref p),some (.ref nl),some (.bl rounds),some (.ref K0),some (.int (most:Int)),o5,o6,o7,o8,o9,o10,o11]/\H3 K0=some (.lst xs)/\KdAll K H3 [p,K0] xs b/\b.names.Perm (ks.take i)/\∀ k ∈ b,k.rs.length<=4/\∀ r ∈ k.rs,goodR k.n r)
  ⟨SB.refl,hp2,[],[],_,_,_,_,_,_,_,rfl,hK2,.nil,List.Perm.refl _,by simp⟩ (fun i σ H3 hi h3=>h3.1.sqL (by simp [np,nK]) (SqL.of hn2)) (fun i x σ H3 H' hi h3 y=>?_) (fun σ H3 h3=>?_)
 ·obtain ⟨s3,hp3,xs,b,o5,o6,o7,o8,o9,o10,o11,rfl,hK3,ha3,pm,hgood⟩:=h3
  obtain ⟨T,x1,y1,rfl,hT,rfl,ex,ey⟩:=y
  have ex:some (V.int (i:Nat))=some x1:=ex
  cases ex
  have ey:(ks.map V.str)[i]?=some y1:=ey
  rw [List.getElem?_map] at ey
  rw [List.length_map] at hi
  obtain ⟨nm,en,rfl⟩:=Option.map_eq_some_iff.mp ey
  have t4:=SB.new (ps:=[]) hT (.tup [.int (i:Nat),.str nm])
  have hT4:upd H3 T (.tup [.int (i:Nat),.str nm]) T=some (.tup [.int (i:Nat),.str nm]):=upd_same
  have hp4:=hp3.sb t4
  have hK4:=t4.keep _ _ hK3 nmn
  have ha4:=ha3.sb t4 NoLst.nil
  have s4:=s3.trans (t4.nil (ps:=[K0,p]))
  generalize upd H3 T (.tup [.int (i:Nat),.str nm])=H4 at t4 hT4 hp4 hK4 ha4 s4
  have hn4:=s4.keep _ _ hn2 (by simp [np,nK])
  refine ⟨T,_,rfl,SqT.of hT4,rfl,_,_,rfl,_,_,rfl,rfl,?_⟩
  refine ⟨_,rfl,_,rfl,_,rfl,nl,_,rfl,SqL.of hn4,fun S nS=>?_⟩
  rw [zd7]
  have t5:=SB.new (ps:=[]) nS (.lst ((ks.take i).map V.str))
  have hS5:upd H4 S (.lst ((ks.take i).map V.str)) S=some (.lst ((ks.take i).map V.str)):=upd_same
  have hp5:=hp4.sb t5
  have hK5:=t5.keep _ _ hK4 nmn
  have hn5:=t5.keep _ _ hn4 nmn
  have ha5:=ha4.sb t5 NoLst.nil
  have s5:=s4.trans (t5.nil (ps:=[K0,p]))
  have Sp:S ≠ p:=fun z=>hp4.ne nS z.symm
  have SK:S ≠ K0:=fun z=>by rw [z,hK4] at nS; cases nS
  generalize upd H4 S (.lst ((ks.take i).map V.str))=H5 at t5 hS5 hp5 hK5 hn5 ha5 s5
  dsimp only
  refine z8d (fun σ' H9=>H9=H5/\∃ (sl:Addr) (ss:List Str),σ'=[some (.ref p),some (.ref nl),some (.bl rounds),some (.ref K0),some (.int (most:Int)),some (.int (i:Int)),some (.str nm),some (.ref sl),o8,o9,o10,o11]/\H5 sl=some (.lst (ss.map V.str))/\sl ≠ p/\sl ≠ K0/\ss.length<=8/\(∀ x ∈ ss,x ∈ ks)/\(rounds=false->ss=ks.take i)) (fun nx hnx=>?_) (fun σ' H9 h=>?_)
  ·refine ifI ⟨_,rfl,rounds,rfl,?_⟩
   cases rounds with
   | true=>exact iteT ⟨_,rfl,hnx _ _ ⟨rfl,nl,ks,rfl,hn5,np,nK,kl,fun _ h=>h,fun z=>nomatch z⟩⟩
   | false=>exact iteF (hnx _ _ ⟨rfl,S,ks.take i,rfl,hS5,Sp,SK,by rw [List.length_take]; omega,fun _ h=>List.mem_of_mem_take h,fun _=>rfl⟩)
  obtain ⟨rfl,sl,ss,rfl,hsl,slp,slK,ssl,ssk,sse⟩:=h
  refine ⟨by show 0<=sizeLine; decide,fun R nR=>?_⟩
  have t6:=SB.new (ps:=[]) nR (.lst [])
  have hR6:upd H9 R (.lst []) R=some (.lst []):=upd_same
  have hp6:=hp5.sb t6
  have hK6:=t6.keep _ _ hK5 nmn
  have hsl6:=t6.keep _ _ hsl nmn
  have ha6:=ha5.sb t6 NoLst.nil
  have ha6R:=(ha5.more nR).sb t6 NoLst.nil
  have s6:=s5.trans (t6.nil (ps:=[K0,p]))
  have Rp:R ≠ p:=fun z=>hp5.ne nR z.symm
  have RK:R ≠ K0:=fun z=>by rw [z,hK5] at nR; cases nR
  have slR:sl ≠ R:=ne_of_none hsl nR
  generalize upd H9 R (.lst [])=H6 at t6 hR6 hp6 hK6 hsl6 ha6 ha6R s6
  refine ⟨_,rfl,p,rfl,hp6,fun r1 H7 r10 r1m s7 hp7=>?_⟩
  refine ⟨_,rfl,_,_,rfl,rfl,_,_,rfl,rfl,(by show (0:Int) < 2+(most:Int); omega),?_⟩
  have hcnt:0<=r1 % (2+(most:Int))/\r1 % (2+(most:Int)) < 2+(most:Int):=⟨Int.emod_nonneg _ (by omega),Int.emod_lt_of_pos _ (by omega)⟩
  refine ⟨_,rfl,by show (-(2 ^ 62):Int)<=r1 % (2+(most:Int)); omega,by show r1 % (2+(most:Int)) < 2 ^ 62; omega,?_⟩
  have hR7:=s7.keep _ _ hR6 (by simpa using Rp)
  have hK7:=s7.keep _ _ hK6 (by simpa using fun z:K0=p=>pK0 z.symm)
  have hsl7:=s7.keep _ _ hsl6 (by simpa using slp)
  have ha7:=ha6.sb s7 (fun q hq=>.inl (by rw [List.mem_singleton.mp hq]; simp))
  have s67:SB [R,K0,p] H2 H7:=(s6.mono (by simp)).trans (s7.mono (by simp))
  refine for_it walk_range (fun j σ H8=>SB [R,p] H7 H8/\Dr H8 p/\∃ (us:List V) (rs:List Ru) (o9 o10 o11:Option V),σ=[some (.ref p),some (.ref nl),some (.bl rounds),some (.ref K0),some (.int (most:Int)),some (.int (i:Int)),some (.str nm),some (.ref sl),some (.ref R),o9,o10,o11]/\H8 R=some (.lst us)/\Bears K H8 Ru.enc us rs/\rs.length<=j/\∀ r ∈ rs,goodR nm r)
   ⟨SB.refl,hp7,[],[],_,_,_,rfl,hR7,.nil,Nat.le_refl _,by simp⟩ (fun _ _ _ _ _=>trivial) (fun j x σ H8 H' hj h8 y=>?_) (fun σ H8 h8=>?_)
  ·obtain ⟨s8,hp8,us,rs,o9,o10,o11,rfl,hR8,hb8,rl,hrs⟩:=h8
   obtain ⟨rfl,rfl⟩:=y
   have hj4:j < 5:=by omega
   refine ⟨_,rfl,p,rfl,hp8,fun r2 H9' r20 r2m s9 hp9=>?_⟩
   refine ⟨_,rfl,_,_,rfl,rfl,_,_,rfl,rfl,(by show (0:Int) < (most:Int)+1; omega),?_⟩
   dsimp only
   obtain ⟨room,er,hroom⟩:∃ u:Nat,r2 % ((most:Int)+1)=(u:Int)/\u<=most:=by
    have h1:=Int.emod_nonneg r2 (show (most:Int)+1 ≠ 0 by omega)
    have h2:=Int.emod_lt_of_pos r2 (show (0:Int) < (most:Int)+1 by omega)
    exact ⟨_,(Int.toNat_of_nonneg h1).symm,by omega⟩
   rw [er]
   have e8:(10:Int) ^ (8:Int).toNat=10 ^ 8:=rfl
   have hsl9:=s9.keep _ _ (s8.keep _ _ hsl7 (by simp [slR,slp])) (by simpa using slp)
   have hR9:=s9.keep _ _ hR8 (by simpa using Rp)
   have hb9:=hb8.sb s9 Ru.noList_enc
   refine ⟨_,rfl,_,rfl,_,rfl,_,_,rfl,rfl,⟨by decide,by decide,by decide⟩,p,sl,ss,room,10 ^ 8,rfl,hp9,⟨hsl9,slp,ssl,fun x hx=>kok x (ssk x hx)⟩,by omega,by omega,by decide,by decide,fun g1 tg1 H10 s10 hp10 hg1 ok1 pt1 dp1 nm1=>?_⟩
   have hR10:=s10.keep _ _ hR9 (by simpa using Rp)
   have hb10:=hb9.sb s10 Ru.noList_enc
   have hsl10:=s10.keep _ _ hsl9 (by simpa using slp)
   have e9:(most:Int)-(room:Int)=((most-room:Nat):Int):=by omega
   refine ⟨_,rfl,.inl ⟨rfl,_,SqL.of hR10⟩,_,rfl,_,rfl,_,rfl,_,rfl,_,rfl,_,_,rfl,rfl,_,_,rfl,rfl,⟨by decide,by decide,by decide⟩,p,sl,ss,most-room,10 ^ 8,(by show [V.ref p,V.ref sl,V.int ((most:Int)-(room:Int)),V.int (10 ^ (8:Int).toNat)]=_; rw [e9]; rfl),hp10,⟨hsl10,slp,ssl,fun x hx=>kok x (ssk x hx)⟩,by omega,by omega,by decide,by decide,fun g2 tg2 H11 s11 hp11 hg2 ok2 pt2 dp2 nm2=>?_⟩
   refine ⟨by show 2<=sizeLine; decide,fun pr npr=>?_⟩
   have t12:=SB.new (ps:=[]) npr (.tup [g1,g2])
   have hpr:upd H11 pr (.tup [g1,g2]) pr=some (.tup [g1,g2]):=upd_same
   have hR12:=t12.keep _ _ (s11.keep _ _ hR10 (by simpa using Rp)) nmn
   have hb12:=(hb10.sb s11 Ru.noList_enc).sb t12 Ru.noList_enc
   have hp12:=hp11.sb t12
   have s712:SB [R,p] H7 (upd H11 pr (.tup [g1,g2])):=s8.trans ((((s9.trans s10).trans s11).trans t12.nil).mono (by simp))
   have hru:Dp K (upd H11 pr (.tup [g1,g2])) (.ref pr) (Ru.enc (tg1,tg2)):=Dp.tup (SqT.of hpr) (.cons (GA.sb (GA.sb hg1 s11) t12) (.cons (GA.sb hg2 t12) .nil))
   generalize upd H11 pr (.tup [g1,g2])=H12 at t12 hpr hR12 hb12 hp12 s712 hru
   have ul:=hb12.length
   refine ⟨R,_,_,rfl,rfl,hR12,by rw [ul]; omega,?_⟩
   have t13:=SB.set (ps:=[R]) hR12 (by simp) (.lst (us++[.ref pr]))
   refine ⟨s712.trans (t13.mono (by simp)),hp12.keep t13 (by simpa using fun z:p=R=>Rp z.symm),us++[.ref pr],rs++[(tg1,tg2)],_,_,_,rfl,upd_same,(hb12.append (.cons hru .nil)).sb t13 Ru.noList_enc,by rw [List.length_append,List.length_singleton]; omega,fun r hr=>?_⟩
   rcases List.mem_append.mp hr with hr | hr
   ·exact hrs r hr
   ·rw [List.mem_singleton.mp hr]
    have r3:(room:Int)<=3:=by omega
    refine ⟨ok1.mono (by omega),ok2.mono (by omega),by show tg1.parts+tg2.parts<=most; omega,z8y ssk nm1,z8y ssk nm2,fun hf j' ej=>?_⟩
    have:i=j':=nodup_at knd en ej
    subst this
    rw [sse hf] at nm1 nm2
    exact ⟨nm1,nm2⟩
  ·obtain ⟨s8,hp8,us,rs,o9,o10,o11,rfl,hR8,hb8,rl,hrs⟩:=h8
   have rl4:rs.length<=4:=by omega
   have hK8:=s8.keep _ _ hK7 (by simp [pK0.symm,RK.symm])
   have ha8:KdAll K H8 [p,K0] xs b:=by
    have h1:SB [R,p,K0] H6 H8:=(s7.mono (by simp)).trans (s8.mono (by simp))
    exact (ha6R.sb h1 NoLst.self).less (by simp)
   refine ⟨_,rfl,.inl ⟨rfl,_,SqL.of hK8⟩,_,rfl,p,rfl,hp8,fun r3 H9' r30 r3m s9 hp9=>?_⟩
   refine ⟨_,rfl,_,_,rfl,rfl,_,_,rfl,rfl,(by show (0:Int) < (i:Int)+1; omega),?_⟩
   have hidx:0<=r3 % ((i:Int)+1)/\r3 % ((i:Int)+1) < (i:Int)+1:=⟨Int.emod_nonneg _ (by omega),Int.emod_lt_of_pos _ (by omega)⟩
   refine ⟨_,rfl,_,rfl,p,rfl,hp9,fun r4 H10 r40 r4m s10 hp10=>?_⟩
   refine ⟨_,_,rfl,rfl,(by show (0:Int) < 2; decide),rfl,_,rfl,by show 3<=sizeLine; decide,fun tu ntu=>?_⟩
   have t11:=SB.new (ps:=[]) ntu (.tup [.str nm,.bl (decide (V.int (r4 % 2)=V.int 1)),.ref R])
   have htu:upd H10 tu (.tup [.str nm,.bl (decide (V.int (r4 % 2)=V.int 1)),.ref R]) tu=some (.tup [.str nm,.bl (decide (V.int (r4 % 2)=V.int 1)),.ref R]):=upd_same
   have hR11:=t11.keep _ _ (s10.keep _ _ (s9.keep _ _ hR8 (by simpa using Rp)) (by simpa using Rp)) nmn
   have hK11:=t11.keep _ _ (s10.keep _ _ (s9.keep _ _ hK8 (by simpa using fun z:K0=p=>pK0 z.symm)) (by simpa using fun z:K0=p=>pK0 z.symm)) nmn
   have hb11:=((hb8.sb s9 Ru.noList_enc).sb s10 Ru.noList_enc).sb t11 Ru.noList_enc
   have hpb:∀ q ∈ [p],q ∈ [p,K0]\/∀ xs,H8 q ≠ some (.lst xs):=fun q hq=>.inl (by rw [List.mem_singleton.mp hq]; simp)
   have ha11:=((ha8.sb s9 (fun q hq=>.inl (by rw [List.mem_singleton.mp hq]; simp))).sb s10 (fun q hq=>.inl (by rw [List.mem_singleton.mp hq]; simp))).sb t11 NoLst.nil
   have hp11:=hp10.sb t11
   have s211:SB [K0,p] H2 (upd H10 tu (.tup [.str nm,.bl (decide (V.int (r4 % 2)=V.int 1)),.ref R])):=by
    have h1:SB [R,K0,p] H2 H8:=s67.trans (s8.mono (by simp))
    have nR2:H2 R=none:=s5.dom _ nR
    exact (h1.drop nR2).trans (((s9.trans s10).trans t11.nil).mono (by simp))
   generalize upd H10 tu (.tup [.str nm,.bl (decide (V.int (r4 % 2)=V.int 1)),.ref R])=H11 at t11 htu hR11 hK11 hb11 ha11 hp11 s211
   have xl:=ha8.length
   have bl:b.length=i:=by
    have:=pm.length_eq
    rw [List.length_map,List.length_take] at this
    omega
   obtain ⟨ix,eix⟩:∃ u:Nat,r3 % ((i:Int)+1)=(u:Int):=⟨_,(Int.toNat_of_nonneg hidx.1).symm⟩
   refine ⟨K0,xs,r3 % ((i:Int)+1),.ref tu,rfl,rfl,hK11,by omega,hidx.1,by omega,?_⟩
   rw [eix,Int.toNat_natCast]
   have t12:=SB.set (ps:=[K0]) hK11 (by simp) (.lst (xs.take ix++[.ref tu]++xs.drop ix))
   refine ⟨s211.trans (t12.mono (by simp)),hp11.keep t12 (by simpa using pK0),xs.take ix++[.ref tu]++xs.drop ix,b.take ix++[⟨nm,decide (V.int (r4 % 2)=V.int 1),rs⟩]++b.drop ix,_,_,_,_,_,_,_,rfl,upd_same,?_,?_,fun k hk=>?_⟩
   ·have ha12:=ha11.sb t12 (fun q hq=>.inl (by rw [List.mem_singleton.mp hq]; simp))
    obtain ⟨c1,c2⟩:=ha12.cut ix
    refine (c1.append (.cons ?_ .nil)).append c2
    exact ⟨tu,R,us,rfl,t12.sqT (SqT.of htu),t12.keep _ _ hR11 (by simpa using RK),hb11.sb t12 Ru.noList_enc,by simp [Rp,RK]⟩
   ·refine (zbu b _ ix).trans ?_
    rw [List.take_add_one,en]
    exact pm.append_right _
   ·rcases List.mem_append.mp hk with hk | hk
    ·rcases List.mem_append.mp hk with hk | hk
     ·exact hgood k (List.mem_of_mem_take hk)
     ·rw [List.mem_singleton.mp hk]; exact ⟨rl4,hrs⟩
    ·exact hgood k (List.mem_of_mem_drop hk)
 ·obtain ⟨s3,hp3,xs,b,o5,o6,o7,o8,o9,o10,o11,rfl,hK3,ha3,pm,hgood⟩:=h3
  rw [List.length_map,List.take_length] at pm
  have bl:b.length=ks.length:=by have:=pm.length_eq; rwa [List.length_map] at this
  have kpos:0 < ks.length:=List.length_pos_iff.mpr nlK
  have hmem:∀ k ∈ b,k.n ∈ ks:=fun k hk=>pm.mem_iff.mp (List.mem_map.mpr ⟨k,hk,rfl⟩)
  refine ⟨_,rfl,q K0 xs b H3 ((s02.nil.trans s3).drop nK0) hp3 nK0 hK3 ha3 ⟨by omega,by omega,pm.nodup_iff.mpr knd,fun k hk=>⟨kok _ (hmem k hk),(hgood k hk).1,fun r hr=>?_⟩⟩ ⟨pm,fun k hk r hr=>⟨((hgood k hk).2 r hr).1,((hgood k hk).2 r hr).2.1⟩,fun k hk r hr=>?_,fun k hk=>(hgood k hk).1,fun hf k hk j ej r hr=>((hgood k hk).2 r hr).2.2.2.2.2 hf j ej,fun k hk r hr=>⟨((hgood k hk).2 r hr).2.2.2.1,((hgood k hk).2 r hr).2.2.2.2.1⟩⟩⟩
  ·obtain ⟨h1,h2,h3,h4,h5,_⟩:=(hgood k hk).2 r hr
   refine ⟨⟨h1.mono (by decide),h2.mono (by decide),by omega⟩,fun x hx=>?_⟩
   rcases List.mem_append.mp hx with hx | hx
   ·exact pm.mem_iff.mpr (h4 x hx)
   ·exact pm.mem_iff.mpr (h5 x hx)
  ·rw [<- hmost]; exact ((hgood k hk).2 r hr).2.2.1
abbrev zfc:List Str:=["_law_kinds_here","_law_name","_law_spreading","_law_rules"]
theorem sc_q13:FnScope zfc ["_law_kinds_here"] (defScope z4b):=⟨rfl,rfl,rfl,by decide +kernel,rfl,by decide +kernel,by decide +kernel⟩
theorem zj6 {C_Book C_NoBook:Addr} (B:BI mg) (G_q0:GotI P w K mg base "Book" C_Book ["self","kinds"] (88) (z3c K C_Book C_NoBook)) (F:Fun K "_law_book" "_law_book" z4b f fd):FnOk P w K mg base CX0 (90) f fd ["_law_kinds_here"] (z72 K C_Book):=by
 refine F.ok sc_q13 (fun vs H Q E h=>?_) (fun cdv A outer s H vs Q E hr h=>?_)
 ·obtain ⟨l,xs,b,rfl,_⟩:=h
  rfl
 obtain ⟨l,xs,b,rfl,hl,ha,ok,q⟩:=h
 have hun2:=hunT hr
 refine ⟨_,pss_one (ps_ret (zad G_q0 (hr.mono (by omega)) rfl (pa_cons (pe_lc (own:=[("_law_name",1),("_law_spreading",2),("_law_rules",3)]) (g:=(gTup K 3 (gCons (gName 1) (gCons (gName 2) (gCons (gName 3) gNil))))) (tt:=tYes) (te:=(tTup (tCons (tVar 1) (tCons (tVar 2) (tCons (tCB (fun xs H Q=>∃ p ys,xs=[.ref p]/\(SqL K H p ys\/SqT K H p ys)/\∀ l,H l=none->Q (.ref l) (upd H l (.lst ys))) (tCons (tVar 3) tNil)) tNil))))) rfl sc_q13.nd (pi_list (pv 0)) (blkOk_by (N:=zfc) (sc:=defScope z4b) (by decide +kernel)) (fun _ _ _ _ _=>(pg_tup rfl (pgs_cons (pg_name (i:=1) sc_q13.nd rfl (.inl rfl)) (pgs_cons (pg_name (i:=2) sc_q13.nd rfl (.inl rfl)) (pgs_cons (pg_name (i:=3) sc_q13.nd rfl (.inl rfl)) pgs_nil))))) (fun _ _ _ _ _=>pts_nil) (fun _ _ _ _ _=>(pe_tup (pa_cons (pv 1) (pa_cons (pv 2) (pa_cons (pe_callTy call_list_of rfl B.list boot_list (pa_cons (pv 3) pa_nil)) pa_nil)))))) pa_nil))),?_⟩
 exact zbm (i:=0) rfl (fun _ _ _=>rfl) (fun _ _ _=>rfl) (fun _ _ _=>rfl) (fun _ _ _=>rfl) hl ha ok fun y H' s ny hy=>q y H' s ny hy
abbrev zlw:List Str:=["_law_one","_law_other","_law_exponent","_law_many_here","_law_beside","_law_more"]
theorem sc_q21:FnScope zlw ["_law_one","_law_other"] (defScope z5q):=⟨rfl,rfl,rfl,by decide +kernel,rfl,by decide +kernel,by decide +kernel⟩
theorem zjn {n:Nat} (B:BI mg) (G_q21:Got P w K mg base "_law_less" ["_law_one","_law_other"] (n) (z1x K n)) (F:Fun K "_law_less" "_law_less" z5q f fd):FnOk P w K mg base CX0 (n+1) f fd ["_law_one","_law_other"] (z1x K (n+1)):=by
 refine F.ok sc_q21 (fun vs H Q E h=>?_) (fun cdv A outer s H vs Q E hr h=>?_)
 ·obtain ⟨v,u,l,o,rfl,_⟩:=h
  rfl
 obtain ⟨v,u,l,o,rfl,hv,hu,hd,hd1,hd2,q⟩:=h
 have hun2:=hunT hr
 refine ⟨_,pss_cons (ps_for PassesOwn.never rfl (RZ.pi_zipA rfl B.zip (pa_cons (pv 0) (pa_cons (pv 1) pa_nil))) (pg_tup rfl (pgs_cons (pg_tup rfl (pgs_cons (pg_name (i:=2) sc_q21.nd rfl (.inl rfl)) (pgs_cons (pg_name (i:=3) sc_q21.nd rfl (.inl rfl)) pgs_nil))) (pgs_cons (pg_tup rfl (pgs_cons (pg_name (i:=4) sc_q21.nd rfl (.inl rfl)) (pgs_cons (pg_name (i:=5) sc_q21.nd rfl (.inl rfl)) pgs_nil))) pgs_nil)))
   (pss_cons (ps_if (pt_cmpR (op_neD (by show A.units+3+64 < cLine; omega)) (pv 2) (pv 4) (nomark _)) (pss_one (ps_ret (z00 G_q21 (hr.mono (by omega)) rfl (pa_cons (pv 2) (pa_cons (pv 4) pa_nil))))) pss_nil)
  (pss_one (ps_if (pt_cmpR op_ne (pv 3) (pv 5) (nomark _)) (pss_one (ps_ret (pe_cmpR op_lt (pv 3) (pv 5) (nomark _)))) pss_nil))))
  (pss_one (ps_ret (pe_cmpR op_lt (pe_callB call_len_seq rfl B.len PySem.boot_len (pa_cons (pv 0) pa_nil)) (pe_callB call_len_seq rfl B.len PySem.boot_len (pa_cons (pv 1) pa_nil)) (nomark _)))),?_⟩
 obtain ⟨a,xs,rfl,hsa,hba⟩:=z0q hv
 obtain ⟨b,ys,rfl,hsb,hbb⟩:=z0q hu
 have xl:=hba.length
 have yl:=hbb.length
 refine ⟨_,rfl,_,rfl,a,b,_,_,rfl,.inr ⟨hsa,hsb,?_⟩⟩
 refine for_it (zbv (xs:=xs) (ys:=ys) (n:=min xs.length ys.length) rfl) (fun i σ H2=>SB [] H H2/\(∃ o2 o3 o4 o5:Option V,σ=[some (.ref a),some (.ref b),o2,o3,o4,o5])/\l.lt o=(Lad.ofPs (l.ps.drop i)).lt (Lad.ofPs (o.ps.drop i)))
  ⟨SB.refl,⟨none,none,none,none,rfl⟩,by rw [List.drop_zero,List.drop_zero,Lad.ofPs_ps,Lad.ofPs_ps]⟩ (fun i σ H2 hi h2=>⟨h2.1.sqT hsa,h2.1.sqT hsb⟩) (fun i x σ H2 H' hi h2 y=>?_) (fun σ H2 h2=>?_)
 ·obtain ⟨s2,⟨o2,o3,o4,o5,rfl⟩,elt⟩:=h2
  obtain ⟨T,x1,y1,rfl,hT,rfl,ex,ey⟩:=y
  have ex:xs[i]?=some x1:=ex
  have ey:ys[i]?=some y1:=ey
  obtain ⟨p,ep,hp⟩:=hba.get ex
  obtain ⟨r,er,hr2⟩:=hbb.get ey
  obtain ⟨ad,u1,rfl,hs1,hl1⟩:=z10 hp
  obtain ⟨ad2,u2,rfl,hs2,hl2⟩:=z10 hr2
  have t3:=SB.new (ps:=[]) hT (.tup [.ref ad,.ref ad2])
  have hT3:upd H2 T (.tup [.ref ad,.ref ad2]) T=some (.tup [.ref ad,.ref ad2]):=upd_same
  have s3:=s2.trans t3
  generalize upd H2 T (.tup [.ref ad,.ref ad2])=H3 at t3 hT3 s3
  have pd:=l.mem_deep p (List.mem_of_getElem? ep)
  have rd:=o.mem_deep r (List.mem_of_getElem? er)
  have e1:Lad.ofPs (l.ps.drop i)=.cons p.1 p.2 (Lad.ofPs (l.ps.drop (i+1))):=by
   obtain ⟨h1,e⟩:=List.getElem?_eq_some_iff.mp ep
   rw [List.drop_eq_getElem_cons h1,e]; rfl
  have e2:Lad.ofPs (o.ps.drop i)=.cons r.1 r.2 (Lad.ofPs (o.ps.drop (i+1))):=by
   obtain ⟨h1,e⟩:=List.getElem?_eq_some_iff.mp er
   rw [List.drop_eq_getElem_cons h1,e]; rfl
  rw [e1,e2,Lad.lt_cons] at elt
  refine ⟨T,_,rfl,SqT.of hT3,rfl,_,_,rfl,ad,_,rfl,s3.sqT hs1,rfl,_,_,rfl,_,_,rfl,rfl,_,_,rfl,ad2,_,rfl,s3.sqT hs2,rfl,_,_,rfl,_,_,rfl,rfl,rfl,?_⟩
  refine ⟨_,rfl,_,rfl,p.1.enc,r.1.enc,LA.sb hl1 s3,LA.sb hl2 s3,Lad.shaped_enc (by omega),Lad.shaped_enc (by omega),_,rfl,?_⟩
  rw [Lad.eqv_enc]
  by_cases he:p.1=r.1
  ·rw [decide_eq_true he]
   refine iteF ?_
   rw [if_pos he] at elt
   refine ⟨_,rfl,_,rfl,rfl,_,rfl,?_⟩
   by_cases hm:p.2=r.2
   ·rw [show (!decide (V.int p.2=V.int r.2))=false by rw [hm]; simp]
    refine iteF ⟨s3,⟨_,_,_,_,rfl⟩,?_⟩
    rw [if_pos hm] at elt
    exact elt
   ·rw [show (!decide (V.int p.2=V.int r.2))=true by simp [hm]]
    refine iteT ?_
    rw [if_neg hm] at elt
    have:=q H3 s3
    rw [elt] at this
    exact ⟨_,rfl,_,rfl,_,_,rfl,rfl,this⟩
  ·rw [decide_eq_false he]
   refine iteT ?_
   rw [if_neg he] at elt
   refine ⟨_,rfl,_,rfl,u1,u2,p.1,r.1,rfl,LA.sb hl1 s3,LA.sb hl2 s3,by omega,by omega,by omega,fun H' s'=>?_⟩
   have:=q H' (s3.trans s')
   rw [elt] at this
   exact this
 ·obtain ⟨s2,⟨o2,o3,o4,o5,rfl⟩,elt⟩:=h2
  refine ⟨_,rfl,a,_,rfl,.inr (s2.sqT hsa),_,rfl,b,_,rfl,.inr (s2.sqT hsb),_,_,rfl,rfl,?_⟩
  have:=q H2 s2
  rw [elt] at this
  have e:(Lad.ofPs (l.ps.drop (min xs.length ys.length))).lt (Lad.ofPs (o.ps.drop (min xs.length ys.length)))=decide ((xs.length:Int) < (ys.length:Int)):=by
   rcases Nat.lt_or_ge xs.length ys.length with h | h
   ·rw [Nat.min_eq_left (by omega),List.drop_eq_nil_of_le (by omega),decide_eq_true (by omega)]
    obtain ⟨w,hw⟩:∃ w,o.ps[xs.length]?=some w:=⟨o.ps[xs.length]'(by omega),List.getElem?_eq_getElem _⟩
    obtain ⟨h1,e⟩:=List.getElem?_eq_some_iff.mp hw
    rw [List.drop_eq_getElem_cons h1]
    exact Lad.lt_nil_cons _ _ _
   ·rw [Nat.min_eq_right h,List.drop_eq_nil_of_le (as:=o.ps) (by omega),decide_eq_false (by omega)]
    exact Lad.lt_nil_r _
  rw [e] at this
  exact this
abbrev zkz:List Str:=["_law_found","_law_at","_law_pair"]
theorem sc_q20:FnScope zkz ["_law_found"] (defScope z61):=⟨rfl,rfl,rfl,by decide +kernel,rfl,by decide +kernel,by decide +kernel⟩
theorem zho {n:Nat} (B:BI mg) (G_q20:Got P w K mg base "_law_ladder" ["_law_found"] (n+40) (z1r K n)) (G_q21:Got P w K mg base "_law_less" ["_law_one","_law_other"] (40) (z1x K 40)) (F:Fun K "_law_ladder" "_law_ladder" z61 f fd):FnOk P w K mg base CX0 (n+41) f fd ["_law_found"] (z1r K (n+1)):=by
 refine F.ok sc_q20 (fun vs H Q E h=>?_) (fun cdv A outer s H vs Q E hr h=>?_)
 ·obtain ⟨v,l,Bd,rfl,_⟩:=h
  rfl
 obtain ⟨v,l,Bd,rfl,hv,ho,hd,hd2,q⟩:=h
 have hun2:=hunT hr
 refine ⟨_,pss_cons (ps_if (pt_not (pt_val (z0t B (pv 0) B.tuple boot_tuple))) (pss_one (ps_ret pe_bl)) pss_nil)
  (pss_cons (ps_for PassesOwn.never rfl (z7n rfl B.enumerate (pv 0)) (pg_tup rfl (pgs_cons (pg_name (i:=1) sc_q20.nd rfl (.inl rfl)) (pgs_cons (pg_name (i:=2) sc_q20.nd rfl (.inl rfl)) pgs_nil)))
   (pss_cons (ps_if (PW.pt (pw_or (pt_not (pt_val (z0t B (pv 2) B.tuple boot_tuple))) (pw_or (pt_cmpR op_ne (pe_callB call_len_seq rfl B.len PySem.boot_len (pa_cons (pv 2) pa_nil)) pe_int (nomark _)) (pw_or1 (pt_not (pt_val (z00 G_q20 (hr.mono (by omega)) rfl (pa_cons (pe_ix ix_tup (pv 2) pe_int (fun _ _=>rfl)) pa_nil)))))))) (pss_one (ps_ret pe_bl)) pss_nil)
  (pss_cons (ps_if (PW.pt (pw_or (pt_not (pt_val (z0t B (pe_ix ix_tup (pv 2) pe_int (fun _ _=>rfl)) B.int boot_int))) (pw_or (pt_val (z0t B (pe_ix ix_tup (pv 2) pe_int (fun _ _=>rfl)) B.bool boot_bool)) (pw_or1 (pt_cmpR op_lt (pe_ix ix_tup (pv 2) pe_int (fun _ _=>rfl)) pe_int (nomark _)))))) (pss_one (ps_ret pe_bl)) pss_nil)
  (pss_one (ps_if (PW.pt (pw_and (pt_cmpR op_gt (pv 1) pe_int (nomark _)) (pw_and1 (pt_not (pt_val (z00 G_q21 (hr.mono (by omega)) rfl (pa_cons (pe_ix ix_tup (pv 2) pe_int (fun _ _=>rfl)) (pa_cons (pe_ix ix_tup (pe_ix ix_tup (pv 0) (pe_op op_sub (pv 1) pe_int) (fun _ _=>rfl)) pe_int (fun _ _=>rfl)) pa_nil)))))))) (pss_one (ps_ret pe_bl)) pss_nil)))))
  (pss_one (ps_ret pe_bl))),?_⟩
 obtain ⟨a,xs,rfl,hs,hb⟩:=z0q hv
 have xl:=hb.length
 have oki:=Lad.ok_iff.mp ho
 refine ⟨_,rfl,_,_,"tuple",true,rfl,z37 hs,by decide +kernel,_,rfl,iteF ?_⟩
 refine ⟨_,rfl,a,xs,rfl,hs,?_⟩
 refine for_it (z4a (xs:=xs)) (fun i σ H2=>SB [] H H2/\∃ o1 o2:Option V,σ=[some (.ref a),o1,o2]) ⟨SB.refl,none,none,rfl⟩ (fun i σ H2 hi h2=>h2.1.sqT hs) (fun i x σ H2 H' hi h2 y=>?_) (fun σ H2 h2=>?_)
 ·obtain ⟨s2,o1,o2,rfl⟩:=h2
  obtain ⟨T,x1,y1,rfl,hT,rfl,ex,ey⟩:=y
  have ex:some (V.int (i:Nat))=some x1:=ex
  cases ex
  have ey:xs[i]?=some y1:=ey
  obtain ⟨p,ep,hpd⟩:=hb.get ey
  have pm:=List.mem_of_getElem? ep
  have po:=oki.1 p pm
  have pd:=l.mem_deep p pm
  obtain ⟨ad,ux,rfl,hs2,hle⟩:=z10 hpd
  have t3:=SB.new (ps:=[]) hT (.tup [.int (i:Nat),.ref ad])
  have hT3:upd H2 T (.tup [.int (i:Nat),.ref ad]) T=some (.tup [.int (i:Nat),.ref ad]):=upd_same
  have s3:=s2.trans t3
  generalize upd H2 T (.tup [.int (i:Nat),.ref ad])=H3 at t3 hT3 s3
  refine ⟨T,_,rfl,SqT.of hT3,rfl,_,_,rfl,_,_,rfl,rfl,?_⟩
  refine ⟨_,rfl,_,_,"tuple",true,rfl,z37 (s3.sqT hs2),by decide +kernel,_,rfl,iteF ?_⟩
  refine ⟨_,rfl,ad,_,rfl,.inr (s3.sqT hs2),rfl,_,rfl,iteF ?_⟩
  refine ⟨_,rfl,ad,_,_,ux,rfl,rfl,s3.sqT hs2,rfl,ux,p.1,Bd,rfl,LA.sb hle s3,po.1,by omega,by omega,fun H4 s4=>?_⟩
  refine ⟨true,rfl,iteF ?_⟩
  have s04:=s3.trans s4
  refine ⟨_,rfl,ad,_,_,.int p.2,rfl,rfl,s04.sqT hs2,rfl,_,_,"int",true,rfl,.base (.int _),by decide +kernel,_,rfl,iteF ?_⟩
  refine ⟨_,rfl,ad,_,_,.int p.2,rfl,rfl,s04.sqT hs2,rfl,_,_,"int",false,rfl,.base (.int _),by decide +kernel,_,rfl,iteF ?_⟩
  refine ⟨_,rfl,ad,_,_,.int p.2,rfl,rfl,s04.sqT hs2,rfl,_,_,rfl,rfl,_,rfl,?_⟩
  rw [decide_eq_false (show ¬ p.2 < 1 by omega)]
  refine iteF ?_
  refine ⟨_,rfl,_,_,rfl,rfl,_,rfl,?_⟩
  by_cases h0:0 < i
  ·rw [decide_eq_true (show (0:Int) < (i:Int) by omega)]
   refine iteT ?_
   have hi2:i-1 < xs.length:=by omega
   obtain ⟨z,ez⟩:∃ z,xs[i-1]?=some z:=⟨xs[i-1],List.getElem?_eq_getElem hi2⟩
   obtain ⟨p',ep',hpd'⟩:=hb.get ez
   obtain ⟨ad',ux',rfl,hs2',hle'⟩:=z10 hpd'
   have pd':=l.mem_deep p' (List.mem_of_getElem? ep')
   have hlt:p.1.lt p'.1=true:=by
    obtain ⟨h1,e1⟩:=List.getElem?_eq_some_iff.mp ep
    obtain ⟨h2,e2⟩:=List.getElem?_eq_some_iff.mp ep'
    have:=List.pairwise_iff_getElem.mp oki.2 (i-1) i h2 h1 (by omega)
    rw [e1,e2] at this
    exact this
   have e3:(i:Int)-1=((i-1:Nat):Int):=by omega
   refine ⟨_,rfl,ad,_,_,ux,rfl,rfl,s04.sqT hs2,rfl,_,rfl,_,rfl,_,_,rfl,rfl,a,_,_,.ref ad',rfl,rfl,s04.sqT hs,(by show atI xs ((i:Int)-1)=_; rw [e3]; exact atI_nat (j:=i-1) ez),ad',_,_,ux',rfl,rfl,s04.sqT hs2',rfl,ux,ux',p.1,p'.1,rfl,LA.sb hle s04,LA.sb hle' s04,by omega,by omega,by omega,fun H5 s5=>?_⟩
   rw [hlt]
   exact ⟨true,rfl,iteF ⟨s04.trans s5,_,_,rfl⟩⟩
  ·rw [decide_eq_false (show ¬ (0:Int) < (i:Int) by omega)]
   exact iteF (iteF ⟨s04,_,_,rfl⟩)
 ·obtain ⟨s2,o1,o2,rfl⟩:=h2
  exact q H2 s2
abbrev zlx:List Str:=["_law_grove_here","_law_found","_law_tree","_law_many_here"]
theorem sc_q18:FnScope zlx ["_law_grove_here"] (defScope z5d):=⟨rfl,rfl,rfl,by decide +kernel,rfl,by decide +kernel,by decide +kernel⟩
theorem zd6 {ps:List Str} {k:Nat}:FnOk P w K mg base CX0 k f fd ps (z35 K 0):=z0o fun vs H Q E ⟨v,g,_,_,h,_⟩=>by omega
theorem zib {n:Nat} (B:BI mg) (G_q18:Got P w K mg base "_law_in" ["_law_grove_here"] (n) (z35 K n)) (F:Fun K "_law_in" "_law_in" z5d f fd):FnOk P w K mg base CX0 (n+1) f fd ["_law_grove_here"] (z35 K (n+1)):=by
 refine F.ok sc_q18 (fun vs H Q E h=>?_) (fun cdv A outer s H vs Q E hr h=>?_)
 ·obtain ⟨v,g,rfl,_⟩:=h
  rfl
 obtain ⟨v,g,rfl,hv,hd,hp,q⟩:=h
 have hun2:=hunT hr
 refine ⟨_,pss_cons (ps_set (i:=1) sc_q18.nd rfl (.inl rfl) (pe_lst pa_nil))
  (pss_cons (ps_for PassesOwn.never rfl (pi_tup (pv 0)) (pg_tup rfl (pgs_cons (pg_name (i:=2) sc_q18.nd rfl (.inl rfl)) (pgs_cons (pg_name (i:=3) sc_q18.nd rfl (.inl rfl)) pgs_nil)))
   (pss_one (ps_set (i:=1) sc_q18.nd rfl (.inl rfl) (pe_op op_cat (pe_op op_cat (pv 1) (pe_lst (pa_cons (pv 2) pa_nil))) (z00 G_q18 (hr.mono (by omega)) rfl (pa_cons (pe_ix ix_tup (pv 2) pe_int (fun _ _=>rfl)) pa_nil))))))
  (pss_one (ps_ret (pv 1)))),?_⟩
 have szl:=sizeLine_eq
 obtain ⟨a,xs,rfl,hs,hb⟩:=z0i hv
 have xl:=hb.length
 refine ⟨by show 0<=sizeLine; decide,fun D0 nD0=>?_⟩
 have t1:=SB.new (ps:=[]) nD0 (.lst [])
 have hD1:upd H D0 (.lst []) D0=some (.lst []):=upd_same
 generalize upd H D0 (.lst [])=H1 at t1 hD1
 refine ⟨_,rfl,a,rfl,⟨xs,t1.sqT hs⟩,?_⟩
 refine for_it (walk_tup (xs:=xs)) (fun i σ H2=>SB [] H H2/\∃ (D:Addr) (us:List V) (o2 o3:Option V),σ=[some (.ref a),some (.ref D),o2,o3]/\H D=none/\H2 D=some (.lst us)/\Bears K H2 Gr.tEnc us ((g.ps.take i).flatMap fun p=>p.1::p.1.2.ins))
  ⟨t1,D0,[],none,none,rfl,nD0,hD1,.nil⟩ (fun i σ H2 hi h2=>h2.1.sqT hs) (fun i x σ H2 H' hi h2 y=>?_) (fun σ H2 h2=>?_)
 ·obtain ⟨s2,D,us,o2,o3,rfl,nD,hD2,hu2⟩:=h2
  obtain ⟨rfl,ey⟩:=y
  obtain ⟨p,ep,hpd⟩:=hb.get ey
  have pm:=List.mem_of_getElem? ep
  obtain ⟨ad,td,ux,rfl,hs2,hs3,hga,htd⟩:=z0h hpd
  have pd:=g.mem_deep p pm
  have pp:=g.mem_parts p pm
  have ul:=hu2.length
  have le:(((g.ps.take (i+1)).flatMap fun p=>p.1::p.1.2.ins)).length<=1000:=by
   have h1:=Gr.ins_len g
   rw [Gr.ins_ps] at h1
   have h2:g.ps.flatMap (fun p=>p.1::p.1.2.ins)=(g.ps.take (i+1)).flatMap (fun p=>p.1::p.1.2.ins)++(g.ps.drop (i+1)).flatMap (fun p=>p.1::p.1.2.ins):=by rw [<- List.flatMap_append,List.take_append_drop]
   rw [h2,List.length_append] at h1
   omega
  have estep:(g.ps.take (i+1)).flatMap (fun p=>p.1::p.1.2.ins)=(g.ps.take i).flatMap (fun p=>p.1::p.1.2.ins)++(p.1::p.1.2.ins):=by
   rw [List.take_add_one,ep,List.flatMap_append]; simp
  rw [estep,List.length_append,List.length_cons] at le
  refine ⟨ad,_,rfl,s2.sqT hs2,rfl,_,_,rfl,_,_,rfl,rfl,?_⟩
  refine ⟨_,rfl,_,rfl,by show 1<=sizeLine; decide,fun L nL=>?_⟩
  have t3:=SB.new (ps:=[]) nL (.lst [.ref td])
  have hL3:upd H' L (.lst [.ref td]) L=some (.lst [.ref td]):=upd_same
  have hD3:=t3.keep _ _ hD2 nmn
  generalize upd H' L (.lst [.ref td])=H3 at t3 hL3 hD3
  refine ⟨D,L,_,_,rfl,rfl,hD3,hL3,by rw [ul,List.length_singleton]; omega,fun F nF=>?_⟩
  have t4:=SB.new (ps:=[]) nF (.lst (us++[.ref td]))
  have hF4:upd H3 F (.lst (us++[.ref td])) F=some (.lst (us++[.ref td])):=upd_same
  generalize upd H3 F (.lst (us++[.ref td]))=H4 at t4 hF4
  have s24:=t3.trans t4
  have s04:=s2.trans s24
  refine ⟨_,rfl,td,_,_,ux,rfl,rfl,s04.sqT hs3,rfl,ux,p.1.2,rfl,GA.sb hga s04,by omega,by omega,fun G vs5 H5 s5 nG hG hv5=>?_⟩
  have hF5:=s5.keep _ _ hF4 nmn
  have vl:=hv5.length
  refine ⟨F,G,_,_,rfl,rfl,hF5,hG,by rw [List.length_append,List.length_singleton,ul,vl]; omega,fun E6 nE6=>?_⟩
  have t6:=SB.new (ps:=[]) nE6 (.lst (us++[.ref td]++vs5))
  refine ⟨(s04.trans s5).trans t6,E6,_,_,_,rfl,(s04.trans s5).dom _ nE6,upd_same,?_⟩
  rw [estep,show (p.1::p.1.2.ins)=[p.1]++p.1.2.ins from rfl,<- List.append_assoc]
  refine ((hu2.sb ((s24.trans s5).trans t6) Gr.noList_tEnc).append (.cons ?_ .nil)).append (hv5.sb t6 Gr.noList_tEnc)
  exact z01 ((s04.trans s5).trans t6) _ _ (Gr.noList_tEnc _) htd
 ·obtain ⟨s2,D,us,o2,o3,rfl,nD,hD2,hu2⟩:=h2
  rw [xl,List.take_length,<- Gr.ins_ps] at hu2
  exact ⟨_,rfl,q D us H2 s2 nD hD2 hu2⟩
abbrev zln:List Str:=["_law_grove_here","_law_ahead","_law_found","_law_at","_law_tree","_law_many_here"]
theorem sc_q25:FnScope zln ["_law_grove_here","_law_ahead"] (defScope z5e):=⟨rfl,rfl,rfl,by decide +kernel,rfl,by decide +kernel,by decide +kernel⟩
theorem zdh {ps:List Str} {k:Nat}:FnOk P w K mg base CX0 k f fd ps (z2b K 0):=z0o fun vs H Q E ⟨v,u,g,pl,_,_,_,h,_⟩=>by omega
theorem ziw {n:Nat} (B:BI mg) (G_q25:Got P w K mg base "_law_places" ["_law_grove_here","_law_ahead"] (n) (z2b K n)) (F:Fun K "_law_places" "_law_places" z5e f fd):FnOk P w K mg base CX0 (n+1) f fd ["_law_grove_here","_law_ahead"] (z2b K (n+1)):=by
 refine F.ok sc_q25 (fun vs H Q E h=>?_) (fun cdv A outer s H vs Q E hr h=>?_)
 ·obtain ⟨v,u,g,pl,rfl,_⟩:=h
  rfl
 obtain ⟨v,u,g,pl,rfl,hv,hu,hd,hd100,hp,⟨C0,hpl⟩,q⟩:=h
 have hun2:=hunT hr
 refine ⟨_,pss_cons (ps_set (i:=2) sc_q25.nd rfl (.inl rfl) (pe_lst pa_nil))
  (pss_cons (ps_for PassesOwn.never rfl (z7n rfl B.enumerate (pv 0)) (pg_tup rfl (pgs_cons (pg_name (i:=3) sc_q25.nd rfl (.inl rfl)) (pgs_cons (pg_tup rfl (pgs_cons (pg_name (i:=4) sc_q25.nd rfl (.inl rfl)) (pgs_cons (pg_name (i:=5) sc_q25.nd rfl (.inl rfl)) pgs_nil))) pgs_nil)))
   (pss_cons (ps_if (pt_cmpR (z34 (by show A.units+3+195 < cLine; omega)) (pe_ix ix_tup (pv 4) pe_int (fun _ _=>rfl)) (pe_tup pa_nil) (nomark _)) (pss_one (ps_expr (pe_bm PySem.F.plainAttrs_list PySem.F.slot_list_append PySem.F.type_list_append mt_append (pv 2) (pa_cons (pe_tup (pa_cons (pe_op z1p (pv 1) (pe_tup (pa_cons (pv 3) pa_nil))) (pa_cons (pe_ix ix_tup (pv 4) pe_int (fun _ _=>rfl)) pa_nil))) pa_nil)))) pss_nil)
  (pss_one (ps_set (i:=2) sc_q25.nd rfl (.inl rfl) (pe_op op_cat (pv 2) (z00 G_q25 (hr.mono (by omega)) rfl (pa_cons (pe_ix ix_tup (pv 4) pe_int (fun _ _=>rfl)) (pa_cons (pe_op z1p (pv 1) (pe_tup (pa_cons (pv 3) pa_nil))) pa_nil))))))))
  (pss_one (ps_ret (pv 2)))),?_⟩
 have szl:=sizeLine_eq
 obtain ⟨a,xs,rfl,hs,hb⟩:=z0i hv
 obtain ⟨ua,rfl,hua⟩:=z29 hu
 have bl:=hb.length
 have lenb:=g.bk_len 0
 have oki:=Gr.ok_iff.mp hpl
 refine ⟨(by show 0<=sizeLine; decide),fun D hD=>?_⟩
 have t1:=SB.new (ps:=[]) hD (.lst [])
 refine ⟨_,rfl,a,xs,rfl,t1.sqT hs,?_⟩
 refine for_it (z4a (xs:=xs)) (fun i σ H2=>SB [] H H2/\∃ (E:Addr) (us:List V) (o3 o4 o5:Option V),σ=[some (.ref a),some (.ref ua),some (.ref E),o3,o4,o5]/\H E=none/\H2 E=some (.lst us)/\Bears K H2 bkE us ((Gr.bks (g.ps.take i) 0).map fun x=>(pl++x.1,x.2))) ⟨t1,D,[],none,none,none,rfl,hD,upd_same,.nil⟩ (fun i σ H2 hi h2=>h2.1.sqT hs) (fun i x σ H2 H' hi h2 y=>?_) (fun σ H2 h2=>?_)
 ·obtain ⟨s2,E,us,o3,o4,o5,rfl,nE,hE2,hb2⟩:=h2
  obtain ⟨T,e1,e2,rfl,hT,rfl,ee1,ee2⟩:=y
  have he1:e1=.int (i:Nat):=(Option.some.inj ee1).symm
  subst he1
  obtain ⟨p,ep,hpd⟩:=hb.get ee2
  have pm:=List.mem_of_getElem? ep
  have pd:=g.mem_deep p pm
  have pp:=g.mem_parts p pm
  obtain ⟨pn,po,p1,pB⟩:=oki.1 p pm
  obtain ⟨ad,td,ux,rfl,hs2,hs3,hga,_⟩:=z0h hpd
  have t3:=SB.new (ps:=[]) hT (.tup [.int (i:Nat),.ref ad])
  have hT3:SqT K (upd H2 T (.tup [.int (i:Nat),.ref ad])) T [.int (i:Nat),.ref ad]:=SqT.of upd_same
  have s3:=s2.trans t3
  have hE3:=t3.keep _ _ hE2 nmn
  have hb3:=hb2.sb t3 z0k
  generalize upd H2 T (.tup [.int (i:Nat),.ref ad])=H3 at t3 hT3 s3 hE3 hb3
  have ul:=hb3.length
  rw [List.length_map] at ul
  have hsp:g.bk 0=Gr.bks (g.ps.take i) 0++Gr.bkP p i++Gr.bks (g.ps.drop (i+1)) (i+1):=by
   rw [Gr.bk_ps]
   conv=>lhs; rw [<- List.take_append_drop (i+1) g.ps]
   rw [Gr.bks_append,Gr.bks_take ep,List.length_take,Nat.min_eq_left (by omega),Nat.zero_add]
  have hlen:=congrArg List.length hsp
  rw [List.length_append,List.length_append] at hlen
  have pbl:=p.1.2.bk_len 0
  refine ⟨T,_,rfl,hT3,rfl,_,_,rfl,_,_,rfl,⟨ad,_,rfl,s3.sqT hs2,rfl,_,_,rfl,_,_,rfl,rfl,rfl,?_⟩⟩
  refine z8d (fun σ' H'=>∃ (us':List V),σ'=[some (.ref a),some (.ref ua),some (.ref E),some (.int (i:Nat)),some (.ref td),some (.int p.2)]/\SB [] H H'/\H' E=some (.lst us')/\Bears K H' bkE us' ((Gr.bks (g.ps.take i) 0++if p.1.2=.nil then [([i],p.1.1)] else []).map fun x=>(pl++x.1,x.2))) (fun nx hnx=>?_) (fun σ' H5 h=>?_)
  ·refine ⟨_,rfl,td,_,_,_,rfl,rfl,s3.sqT hs3,atI_nat (j:=1) rfl,by show 0<=sizeLine; decide,fun e0 he0=>?_⟩
   have t4:=SB.new (ps:=[]) he0 (.tup [])
   have hE4:=t4.keep _ _ hE3 nmn
   have s4:=s3.trans t4
   have h04:SqT K (upd H3 e0 (.tup [])) e0 []:=SqT.of upd_same
   have hb4:=hb3.sb t4 z0k
   generalize upd H3 e0 (.tup [])=H4 at t4 hE4 s4 h04 hb4
   refine ⟨p.1.2.enc,.tuple [],hga.sb s4,.tup h04 .nil,Gr.wd po (by omega),Gr.wd_nil,_,rfl,?_⟩
   rw [Gr.enc_eq_nil]
   by_cases hn:p.1.2=.nil
   ·rw [show decide (p.1.2=.nil)=true from decide_eq_true hn]
    refine iteT ⟨_,rfl,.inl ⟨rfl,_,SqL.of hE4⟩,_,rfl,_,rfl,by show 1<=sizeLine; decide,fun t ht=>?_⟩
    have t5:=SB.new (ps:=[]) ht (.tup [.int (i:Nat)])
    have s5:=s4.trans t5
    refine ⟨ua,t,_,_,rfl,rfl,s5.sqT hua,SqT.of upd_same,?_,fun c H6 s6 hc=>?_⟩
    ·rw [List.length_map,List.length_singleton]
     have:=z23 (n:=pl.length+1) (by omega)
     omega
    have s46:=t5.trans s6
    have s06:=s4.trans s46
    refine ⟨_,rfl,td,_,_,_,rfl,rfl,s06.sqT hs3,atI_nat (j:=0) rfl,by show 2<=sizeLine; decide,fun T2 hT2=>?_⟩
    have t7:=SB.new (ps:=[]) hT2 (.tup [.ref c,.str p.1.1])
    have hE7:=t7.keep _ _ (s46.keep _ _ hE4 nmn) nmn
    have hT7:SqT K (upd H6 T2 (.tup [.ref c,.str p.1.1])) T2 [.ref c,.str p.1.1]:=SqT.of upd_same
    have hc7:=t7.sqT hc
    have s07:=s06.trans t7
    have hb7:=(hb4.sb s46 z0k).sb t7 z0k
    generalize upd H6 T2 (.tup [.ref c,.str p.1.1])=H7 at t7 hE7 hT7 hc7 s07 hb7
    refine ⟨E,us,_,rfl,rfl,hE7,by omega,?_⟩
    have t8:=SB.set (ps:=[E]) hE7 (by simp) (.lst (us++[.ref T2]))
    refine hnx _ _ ⟨us++[.ref T2],rfl,((s07.nil (ps:=[E])).trans t8).drop nE,upd_same,?_⟩
    rw [if_pos hn,List.map_append]
    refine (hb7.sb t8 z0k).append (.cons ?_ .nil)
    refine .tup (t8.sqT hT7) (.cons ?_ (.cons (.str _) .nil))
    refine z27 (p:=pl++[i]) (t8.sqT ?_)
    rw [List.map_append]; exact hc7
   ·rw [show decide (p.1.2=.nil)=false from decide_eq_false hn]
    refine iteF (hnx _ _ ⟨us,rfl,s4,hE4,?_⟩)
    rw [if_neg hn,List.append_nil]; exact hb4
  obtain ⟨us',rfl,s5,hE5,hb5⟩:=h
  have ul5:=hb5.length
  rw [List.length_map,List.length_append] at ul5
  have hif:(if p.1.2=.nil then [(([i]:Pl),p.1.1)] else []).length<=1:=by split <;> simp
  refine ⟨_,rfl,_,rfl,td,_,_,_,rfl,rfl,s5.sqT hs3,atI_nat (j:=1) rfl,_,rfl,_,rfl,by show 1<=sizeLine; decide,fun t ht=>?_⟩
  have t6:=SB.new (ps:=[]) ht (.tup [.int (i:Nat)])
  have s6:=s5.trans t6
  refine ⟨ua,t,_,_,rfl,rfl,s6.sqT hua,SqT.of upd_same,?_,fun c H7 s7 hc=>?_⟩
  ·rw [List.length_map,List.length_singleton]
   have:=z23 (n:=pl.length+1) (by omega)
   omega
  have s57:=t6.trans s7
  have s07:=s5.trans s57
  have hc':Dp K H7 (.ref c) (z0d (pl++[i])):=z27 (p:=pl++[i]) (by rw [List.map_append]; exact hc)
  refine ⟨ux,.ref c,p.1.2,pl++[i],rfl,hga.sb s07,hc',by omega,by rw [List.length_append]; show _+(_+1)<=_; omega,by omega,⟨C0,po⟩,fun L vs H8 s8 nL hL hb8=>?_⟩
  have hE8:=(s57.trans s8).keep _ _ hE5 nmn
  have vl:=hb8.length
  rw [List.length_map] at vl
  refine ⟨E,L,_,_,rfl,rfl,hE8,hL,by omega,fun M hM=>?_⟩
  have t9:=SB.new (ps:=[]) hM (.lst (us'++vs))
  have s08:=s07.trans s8
  refine ⟨s08.trans t9,M,us'++vs,_,_,_,rfl,s08.dom _ hM,upd_same,?_⟩
  have eP:(Gr.bks (g.ps.take (i+1)) 0).map (fun x=>(pl++x.1,x.2))=(Gr.bks (g.ps.take i) 0++if p.1.2=.nil then [([i],p.1.1)] else []).map (fun x=>(pl++x.1,x.2))++(p.1.2.bk 0).map (fun x=>((pl++[i])++x.1,x.2)):=by
   rw [Gr.bks_take ep]
   unfold Gr.bkP
   by_cases hn:p.1.2=.nil
   ·rw [if_pos hn,if_pos hn,hn]; simp [Gr.bk]
   ·rw [if_neg hn,if_neg hn]; simp
  rw [eP]
  exact ((hb5.sb (s57.trans s8) z0k).sb t9 z0k).append (hb8.sb t9 z0k)
 ·obtain ⟨s2,E,us,o3,o4,o5,rfl,nE,hE2,hb2⟩:=h2
  rw [bl,List.take_length,<- Gr.bk_ps] at hb2
  exact ⟨_,rfl,q E us H2 s2 nE hE2 hb2⟩
abbrev zdu:List Str:=["_law_grove_here","_law_tree","_law_many_here"]
theorem sc_q14:FnScope zdu ["_law_grove_here"] (defScope z3y):=⟨rfl,rfl,rfl,by decide +kernel,rfl,by decide +kernel,by decide +kernel⟩
theorem zcl {ps:List Str} {k:Nat}:FnOk P w K mg base CX0 k f fd ps (z1t K 0):=z0o fun vs H Q E ⟨v,g,_,_,h,_⟩=>by omega
theorem zin {n:Nat} (B:BI mg) (G_q14:Got P w K mg base "_law_deep" ["_law_grove_here"] (n) (z1t K n)) (F:Fun K "_law_deep" "_law_deep" z3y f fd):FnOk P w K mg base CX0 (n+1) f fd ["_law_grove_here"] (z1t K (n+1)):=by
 refine F.ok sc_q14 (fun vs H Q E h=>?_) (fun cdv A outer s H vs Q E hr h=>?_)
 ·obtain ⟨v,g,rfl,_⟩:=h
  rfl
 obtain ⟨v,g,rfl,hv,gd,gl,gw,q⟩:=h
 have hun2:=hunT hr
 refine ⟨_,pss_one (ps_ret (pe_op op_add pe_int (pe_callBK (zgi rfl (by show A.units+3+10 < cLine; omega)) rfl B.max boot_max (pa_cons (pe_lc (own:=[("_law_tree",1),("_law_many_here",2)]) (g:=(gTup K 2 (gCons (gName 1) (gCons (gName 2) gNil)))) (tt:=tYes) (te:=(tCall (z1t K n) [] E0 (tCons (tOp (rIxT K) (tVar 1) (tC (.int 1))) tNil))) rfl sc_q14.nd (pi_tup (pv 0)) (blkOk_by (N:=zdu) (sc:=defScope z3y) (by decide +kernel)) (fun _ _ _ _ _=>(pg_tup rfl (pgs_cons (pg_name (i:=1) sc_q14.nd rfl (.inl rfl)) (pgs_cons (pg_name (i:=2) sc_q14.nd rfl (.inl rfl)) pgs_nil)))) (fun _ _ _ _ _=>pts_nil) (fun _ _ _ _ _=>(z00 G_q14 (hr.mono (by omega)) rfl (pa_cons (pe_ix ix_tup (pv 1) pe_int (fun _ _=>rfl)) pa_nil)))) pa_nil) (pk_cons (pe_un un_neg pe_int) pk_nil)))),?_⟩
 have szl:=sizeLine_eq
 obtain ⟨a,xs,rfl,hs,hb⟩:=z0i hv
 have xl:=hb.length
 refine ⟨_,rfl,a,rfl,⟨xs,hs⟩,fun D nD=>?_⟩
 refine z66 (walk_tup (xs:=xs)) [] nD (by simp) (by omega) (fun i us H2=>us=((g.ps.take i).map fun p:Tr × Int=>((p.1.2.deep:Nat):Int)).map V.int) rfl (fun H2 s2=>s2.sqT hs) (fun i us H2 H3 s3 h=>h) (fun Pv i x Hq H2 us hi s2 y hR hu' hD2 fin _=>?_) (fun us H2 s2 hD2 hR hul=>?_)
 ·obtain ⟨rfl,ey⟩:=y
  obtain ⟨p,ep,hpd⟩:=hb.get ey
  have pm:=List.mem_of_getElem? ep
  have pd:=g.mem_deep p pm
  obtain ⟨ad,bd,ux,rfl,h1,h2,h3,h4⟩:=z0h hpd
  have pw:∀ x ∈ p::p.1.2.within,x ∈ g.within:=fun x hx=>by rw [Gr.within_ps]; exact List.mem_flatMap.mpr ⟨p,pm,hx⟩
  refine ⟨ad,_,rfl,s2.sqT h1,rfl,_,_,rfl,_,_,rfl,rfl,rfl,?_⟩
  refine ⟨_,rfl,bd,_,_,_,rfl,rfl,s2.sqT h2,atI_nat (j:=1) rfl,ux,p.1.2,rfl,h3.sb s2,by omega,gw p (pw p (by simp)),fun x hx=>gw x (pw x (by simp [hx])),fun H3 s3=>?_⟩
  refine fin _ _ s3 ?_
  rw [hR,List.take_add_one,ep]
  simp
 ·subst hR
  rw [xl,List.take_length] at hD2
  refine ⟨_,rfl,D,_,-1,rfl,rfl,SqL.of hD2,fun e=>⟨_,_,rfl,rfl,?_⟩,fun m hm hy=>⟨_,_,rfl,rfl,?_⟩⟩
  ·have e0:g.ps=[]:=List.map_eq_nil_iff.mp e
   have e1:g=.nil:=by rw [<- Gr.ofPs_ps g,e0]; rfl
   have:=q _ s2
   rw [e1] at this
   exact this
  ·obtain ⟨p,hp,rfl⟩:=List.mem_map.mp hm
   have hd:g.deep=1+p.1.2.deep:=by
    have h1:=Gr.mem_deep g p hp
    have h2:g.deep<=1+p.1.2.deep:=Gr.deep_le fun x hx=>by
     have:=hy _ (List.mem_map.mpr ⟨x,hx,rfl⟩)
     omega
    omega
   show Q (V.int ((1:Int)+(p.1.2.deep:Nat))) H2
   rw [show (1:Int)+(p.1.2.deep:Nat)=(g.deep:Nat) by rw [hd]; omega]
   exact q _ s2
theorem zkd:FnScope ["self","kind"] ["self","kind"] (defScope s_q5):=⟨rfl,rfl,rfl,by decide +kernel,rfl,by decide +kernel,by decide +kernel⟩
theorem zko {C:Addr} (F:Fun K "__init__" "NoKind.__init__" s_q5 f fd):FnOk P w K mg base CX0 1 f fd ["self","kind"] (z8f K C):=by
 refine F.ok zkd (fun vs H Q E h=>?_) (fun cdv A outer s H vs Q E hr h=>?_)
 ·obtain ⟨a,y,rfl,_⟩:=h
  rfl
 obtain ⟨a,y,rfl,T,no,ha,q⟩:=h
 refine ⟨_,pss_one (ps_ost (pv 0) (pv 1)),?_⟩
 exact ⟨_,rfl,_,rfl,a,C,rfl,T,no,.inl ⟨ha,q⟩⟩
theorem zkj:FnScope ["self","kind"] ["self","kind"] (defScope s_q4):=⟨rfl,rfl,rfl,by decide +kernel,rfl,by decide +kernel,by decide +kernel⟩
theorem zkp {C:Addr} (F:Fun K "__init__" "Endless.__init__" s_q4 f fd):FnOk P w K mg base CX0 1 f fd ["self","kind"] (z8f K C):=by
 refine F.ok zkj (fun vs H Q E h=>?_) (fun cdv A outer s H vs Q E hr h=>?_)
 ·obtain ⟨a,y,rfl,_⟩:=h
  rfl
 obtain ⟨a,y,rfl,T,no,ha,q⟩:=h
 refine ⟨_,pss_one (ps_ost (pv 0) (pv 1)),?_⟩
 exact ⟨_,rfl,_,rfl,a,C,rfl,T,no,.inl ⟨ha,q⟩⟩
abbrev N_q0:List Str:=["self","kinds","name","spreading","rows"]
theorem sc_q0:FnScope N_q0 ["self","kinds"] (defScope s_q0):=⟨rfl,rfl,rfl,by decide +kernel,rfl,by decide +kernel,by decide +kernel⟩
theorem zlm {C_NoBook C_Book:Addr} (B:BI mg) (O_NoBook:Own K mg "NoBook" C_NoBook) (T_Book:ClsF K C_Book ["spread_by_name","rows_by_name"]) (G_q31:Got P w K mg base "are_kinds" ["things"] (87) (z4i K)) (F:Fun K "__init__" "Book.__init__" s_q0 f fd):FnOk P w K mg base (L2.CX P w) (88) f fd ["self","kinds"] (z3c K C_Book C_NoBook):=by
 refine F.okX sc_q0 (fun vs H Q E h=>?_) (fun cdv A outer s H vs Q E hr h=>?_)
 ·obtain ⟨x,dx,l,xs,ts,rfl,_⟩:=h
  rfl
 obtain ⟨x,dx,l,xs,ts,rfl,hx,hdx,hs,ha,hf,hl,q,qE⟩:=h
 have hun2:=hunT hr
 refine ⟨_,pss_cons (ps_if (pt_not (pt_val (z00 G_q31 (hr.mono (by omega)) rfl (pa_cons (pv 1) pa_nil)))) (pss_one (ps_raise rfl (takes_of rfl rfl rfl rfl) (pmk_own PySem.F.excBase_ValueError O_NoBook.q O_NoBook.gC O_NoBook.k (raises_own O_NoBook.s O_NoBook.t) rfl))) pss_nil)
  (pss_cons (ps_fld (pv 0) (pe_dc (own:=[("name",2),("spreading",3),("rows",4)]) (g:=(gTup K 3 (gCons (gName 2) (gCons (gName 3) (gCons (gName 4) gNil))))) (tt:=tYes) (tk:=(tVar 2)) (tv:=(tVar 3)) rfl sc_q0.nd (pi_list (pv 1)) (blkOk_by (N:=N_q0) (sc:=defScope s_q0) (by decide +kernel)) (fun _ _ _ _ _=>(pg_tup rfl (pgs_cons (pg_name (i:=2) sc_q0.nd rfl (.inl rfl)) (pgs_cons (pg_name (i:=3) sc_q0.nd rfl (.inl rfl)) (pgs_cons (pg_name (i:=4) sc_q0.nd rfl (.inl rfl)) pgs_nil))))) (fun _ _ _ _ _=>pts_nil) (fun _ _ _ _ _=>(pv 2)) (fun _ _ _ _ _=>(pv 3))) rfl)
  (pss_one (ps_fld (pv 0) (pe_dc (own:=[("name",2),("spreading",3),("rows",4)]) (g:=(gTup K 3 (gCons (gName 2) (gCons (gName 3) (gCons (gName 4) gNil))))) (tt:=tYes) (tk:=(tVar 2)) (tv:=(tCB (fun xs H Q=>∃ p ys,xs=[.ref p]/\((SqL K H p ys/\∀ l,H l=none->Q (.ref l) (upd H l (.tup ys)))\/(SqT K H p ys/\Q (.ref p) H))) (tCons (tVar 4) tNil))) rfl sc_q0.nd (pi_list (pv 1)) (blkOk_by (N:=N_q0) (sc:=defScope s_q0) (by decide +kernel)) (fun _ _ _ _ _=>(pg_tup rfl (pgs_cons (pg_name (i:=2) sc_q0.nd rfl (.inl rfl)) (pgs_cons (pg_name (i:=3) sc_q0.nd rfl (.inl rfl)) (pgs_cons (pg_name (i:=4) sc_q0.nd rfl (.inl rfl)) pgs_nil))))) (fun _ _ _ _ _=>pts_nil) (fun _ _ _ _ _=>(pv 2)) (fun _ _ _ _ _=>(pe_callTy call_tuple_of rfl B.tuple boot_tuple (pa_cons (pv 4) pa_nil)))) rfl))),?_⟩
 refine ⟨_,rfl,l,xs,ts,rfl,SqL.of hs,ha,hf,hl,fun b H1 s1 hb=>?_⟩
 refine ⟨_,rfl,?_⟩
 cases b with
 | false=>exact iteT (qE (fun z=>nomatch (hb.mpr z)) H1 s1)
 | true =>
 refine iteF ?_
 obtain ⟨bk,et,ok⟩:=hb.mp rfl
 subst et
 have q2:=q bk rfl ok
 have ha1:=(ha.sb s1).kd
 have hs1:=s1.keep _ _ hs nmn
 have hx1:=s1.keep _ _ hx nmn
 have xlen:=ha1.length
 have szl:=sizeLine_eq
 have b8:=ok.len
 have hlx:l ≠ x:=ne_of hs hx (fun z=>nomatch z)
 refine ⟨_,rfl,l,rfl,⟨_,SqL.of hs1⟩,fun D hD=>?_⟩
 refine zbl (walk_list (xs:=xs)) hD (by omega) (fun i kvs _=>kvs=Bk.spKV (bk.take i)) rfl (fun H2 s2=>s2.sqL nmn (SqL.of hs1)) (fun _ _ _ _ _ h=>h) (fun Pv i y H2 H' kvs hi s2 yy hR hl2 fin _=>?_) (fun kvs H2 s2 hD2 hR _=>?_)
 ·obtain ⟨rfl,ey⟩:=yy
  obtain ⟨k,ek,t,r,zs,rfl,h1,h2,h3,_⟩:=ha1.get ey
  refine ⟨t,_,rfl,s2.sqT h1,rfl,_,_,rfl,_,_,rfl,_,_,rfl,rfl,rfl,?_⟩
  refine ⟨_,rfl,_,rfl,fin (Sum.inr k.n) _ _ SB.refl ?_⟩
  rw [hR,z2g,List.take_add_one,ek,Option.toList_some,Bk.spKV,Bk.spKV,List.map_append]
  ·rfl
  ·intro p hp e
   obtain ⟨j,hj,rfl⟩:=List.mem_map.mp hp
   injection e with e
   exact Bk.nodup_at ok.nd ek j hj e
 ·rw [xlen,List.take_length] at hR
  subst hR
  have hx2:=s2.keep _ _ hx1 nmn
  have hl2:=s2.keep _ _ hs1 nmn
  have ha2:=ha1.sb s2 NoLst.nil
  refine ⟨_,rfl,x,_,dx,_,rfl,hx2,T_Book.c,T_Book.no _ (by simp),by decide,?_⟩
  have e1:putF (Str.ofString "spread_by_name") (V.ref D) []=[(Str.ofString "spread_by_name",V.ref D)]:=rfl
  rw [e1]
  have t3:SB [x] H2 (upd H2 x (.ins C_Book dx [(Str.ofString "spread_by_name",V.ref D)])):=SB.setG hx2 (by simp) (fun _ z=>nomatch z) (fun _ _ z=>nomatch z) _
  have nl3:NoLst H2 [] [x]:=fun p hp=>.inr fun xs z=>by rw [List.mem_singleton.mp hp,hx2] at z; cases z
  have ha3:=ha2.sb t3 nl3
  have hl3:=t3.keep _ _ hl2 (by simpa using hlx)
  have hx3:upd H2 x (.ins C_Book dx [(Str.ofString "spread_by_name",V.ref D)]) x=some (.ins C_Book dx [(Str.ofString "spread_by_name",V.ref D)]):=upd_same
  have hD3:=t3.keep _ _ hD2 (by simpa using ne_of hD2 hx2 (fun z=>nomatch z))
  have s03:=((s1.trans s2).nil (ps:=[x])).trans t3
  generalize upd H2 x (.ins C_Book dx [(Str.ofString "spread_by_name",V.ref D)])=H3 at t3 ha3 hl3 hx3 hD3 s03
  refine ⟨_,rfl,l,rfl,⟨_,SqL.of hl3⟩,fun D2 hn2=>?_⟩
  refine zbl (walk_list (xs:=xs)) hn2 (by omega) (fun i kvs H4=>∃ us,kvs=Bk.rowKV (bk.take i) us/\Bears K H4 Kd.rowE us (bk.take i)) ⟨[],rfl,.nil⟩ (fun H4 s4=>s4.sqL nmn (SqL.of hl3)) (fun i us H4 H5 s5 ⟨us',e,hb⟩=>⟨us',e,hb.sb s5 Kd.noList_rowE⟩) (fun Pv i y H4 H' kvs hi s4 yy hR hl4 fin _=>?_) (fun kvs H4 s4 hD4 hR _=>?_)
  ·obtain ⟨rfl,ey⟩:=yy
   obtain ⟨us,rfl,hb⟩:=hR
   obtain ⟨k,ek,t,r,zs,rfl,h1,h2,h3,_⟩:=ha3.get ey
   refine ⟨t,_,rfl,s4.sqT h1,rfl,_,_,rfl,_,_,rfl,_,_,rfl,rfl,rfl,?_⟩
   refine ⟨_,rfl,_,rfl,r,zs,rfl,.inl ⟨SqL.of (s4.keep _ _ h2 nmn),fun p hp=>?_⟩⟩
   have t5:=SB.new (ps:=[]) hp (.tup zs)
   refine fin (Sum.inr k.n) _ _ t5 ⟨us++[.ref p],?_,?_⟩
   ·rw [z2g,List.take_add_one,ek,Option.toList_some,Bk.rowKV,Bk.rowKV,List.zipWith_append hb.length.symm]
    ·rfl
    ·intro p hp e
     obtain ⟨j,hj,e2⟩:=z8o hp
     rw [e2] at e
     injection e with e
     exact Bk.nodup_at ok.nd ek j hj e
   ·rw [List.take_add_one,ek,Option.toList_some]
    exact Bears.append (hb.sb t5 Kd.noList_rowE) (.cons (.tup (.inl (.inl upd_same)) (Bears.dp ((h3.sb s4 Ru.noList_enc).sb t5 Ru.noList_enc))) .nil)
  ·rw [xlen,List.take_length] at hR
   obtain ⟨us,rfl,hb⟩:=hR
   have hx4:=s4.keep _ _ hx3 nmn
   refine ⟨_,rfl,x,_,dx,_,rfl,hx4,T_Book.c,T_Book.no _ (by simp),by simp,?_⟩
   have t5:SB [x] H4 (upd H4 x (.ins C_Book dx (bkF D D2))):=SB.setG hx4 (by simp) (fun _ z=>nomatch z) (fun _ _ z=>nomatch z) _
   refine q2 _ ((s03.trans s4.nil).trans t5) ⟨x,dx,D,D2,us,rfl,upd_same,?_,?_,hb.sb t5 Kd.noList_rowE⟩
   ·exact t5.keep _ _ (s4.keep _ _ hD3 nmn) (by simpa using ne_of (s4.keep _ _ hD3 nmn) hx4 (fun z=>nomatch z))
   ·exact t5.keep _ _ hD4 (by simpa using ne_of hD4 hx4 (fun z=>nomatch z))
abbrev N_q1:List Str:=["self"]
theorem zm1:FnScope N_q1 ["self"] (defScope s_q1):=⟨rfl,rfl,rfl,by decide +kernel,rfl,by decide +kernel,by decide +kernel⟩
theorem zkh {C_Book:Addr} (B:BI mg) (T_Book:ClsF K C_Book ["spread_by_name","rows_by_name"]) (F:Fun K "names" "Book.names" s_q1 f fd):FnOk P w K mg base CX0 (1) f fd ["self"] (z2q K C_Book):=by
 refine F.ok zm1 (fun vs H Q E h=>?_) (fun cdv A outer s H vs Q E hr h=>?_)
 ·obtain ⟨v,b,rfl,_⟩:=h
  rfl
 obtain ⟨v,b,rfl,hb,hl,q⟩:=h
 have hun2:=hunT hr
 refine ⟨_,pss_one (ps_ret (pe_callTy (call_listD rfl) rfl B.list boot_list (pa_cons (pe_fld (pv 0) rfl) pa_nil))),?_⟩
 obtain ⟨a,dx,d1,d2,us,rfl,h1,h2,h3,h4⟩:=hb
 refine ⟨_,rfl,a,_,dx,_,_,rfl,h1,T_Book.c,T_Book.no _ (by simp),rfl,d1,_,rfl,.inl h2,fun p hp=>?_⟩
 exact q p _ (SB.new hp _) hp (by rw [upd_same,Bk.spKV,List.map_map,List.map_map]; rfl)
abbrev N_q3:List Str:=["self","name"]
theorem zke:FnScope N_q3 ["self","name"] (defScope s_q3):=⟨rfl,rfl,rfl,by decide +kernel,rfl,by decide +kernel,by decide +kernel⟩
theorem zks {C_Book C_NoKind:Addr} (B:BI mg) (T_Book:ClsF K C_Book ["spread_by_name","rows_by_name"]) (G_q36:GotX P w K mg base "check_kind" ["book","name"] (3) (z2l K C_Book C_NoKind)) (F:Fun K "spreads" "Book.spreads" s_q3 f fd):FnOk P w K mg base (L2.CX P w) (4) f fd ["self","name"] (z25 K C_Book C_NoKind):=by
 refine F.okX zke (fun vs H Q E h=>?_) (fun cdv A outer s H vs Q E hr h=>?_)
 ·obtain ⟨v,b,n,rfl,_⟩:=h
  rfl
 obtain ⟨v,b,n,rfl,hb,hl,qk,qE⟩:=h
 have hun2:=hunT hr
 refine ⟨_,pss_cons (ps_expr (z0p G_q36 (hr.mono (by omega)) rfl (takes_of rfl rfl rfl rfl) (pa_cons (pv 0) (pa_cons (pv 1) pa_nil))))
  (pss_one (ps_ret (pe_dget (by show A.units+3+1 < cLine; omega) (pe_fld (pv 0) rfl) (pv 1) (fun _ _=>rfl)))),?_⟩
 refine ⟨_,rfl,_,rfl,_,b,n,rfl,hb,hl,fun k e H1 s1=>?_,qE⟩
 obtain ⟨a,dx,d1,d2,us,rfl,h1,h2,h3,h4⟩:=hb.sb0 s1
 refine ⟨_,rfl,a,_,dx,_,_,rfl,h1,T_Book.c,T_Book.no _ (by simp),rfl,_,rfl,d1,V.bl k.w,rfl,getK h2 (by rw [Bk.spKV_val,e]; rfl),qk k e H1 s1⟩
abbrev N_q2:List Str:=["self","name"]
theorem zla:FnScope N_q2 ["self","name"] (defScope s_q2):=⟨rfl,rfl,rfl,by decide +kernel,rfl,by decide +kernel,by decide +kernel⟩
theorem zky {C_Book C_NoKind:Addr} (B:BI mg) (T_Book:ClsF K C_Book ["spread_by_name","rows_by_name"]) (G_q36:GotX P w K mg base "check_kind" ["book","name"] (3) (z2l K C_Book C_NoKind)) (F:Fun K "rules" "Book.rules" s_q2 f fd):FnOk P w K mg base (L2.CX P w) (4) f fd ["self","name"] (z3z K C_Book C_NoKind):=by
 refine F.okX zla (fun vs H Q E h=>?_) (fun cdv A outer s H vs Q E hr h=>?_)
 ·obtain ⟨v,b,n,rfl,_⟩:=h
  rfl
 obtain ⟨v,b,n,rfl,hb,hl,hr4,qk,qE⟩:=h
 have hun2:=hunT hr
 refine ⟨_,pss_cons (ps_expr (z0p G_q36 (hr.mono (by omega)) rfl (takes_of rfl rfl rfl rfl) (pa_cons (pv 0) (pa_cons (pv 1) pa_nil))))
  (pss_one (ps_ret (pe_callTy call_list_of rfl B.list boot_list (pa_cons (pe_dget (by show A.units+3+1 < cLine; omega) (pe_fld (pv 0) rfl) (pv 1) (fun _ _=>rfl)) pa_nil)))),?_⟩
 refine ⟨_,rfl,_,rfl,_,b,n,rfl,hb,hl,fun k e H1 s1=>?_,qE⟩
 obtain ⟨a,dx,d1,d2,us,rfl,h1,h2,h3,h4⟩:=hb.sb0 s1
 obtain ⟨u,hv,hu⟩:=Bk.rowKV_val n h4 e
 refine ⟨_,rfl,a,_,dx,_,_,rfl,h1,T_Book.c,T_Book.no _ (by simp),rfl,_,rfl,d2,u,rfl,getK h3 hv,?_⟩
 cases hu with
 | tup ht hd=>exact ⟨_,_,rfl,.inr ht,fun l hl=>qk k e l _ _ (s1.trans (SB.new hl _)) (s1.dom l hl) upd_same ((Bears.of hd).sb (SB.new (ps:=[]) hl _) Ru.noList_enc)⟩
abbrev N_q6:List Str:=["self","book","grove"]
theorem zlf:FnScope N_q6 ["self","book","grove"] (defScope s_q6):=⟨rfl,rfl,rfl,by decide +kernel,rfl,by decide +kernel,by decide +kernel⟩
theorem zlh {C_Play C_Book:Addr} (B:BI mg) (T_Play:ClsF K C_Play ["book","stood","done","undone"]) (G_q37:GotX P w K mg base "check_kinds" ["book","grove"] (72) (z1k K C_Book)) (F:Fun K "__init__" "Play.__init__" s_q6 f fd):FnOk P w K mg base (L2.CX P w) (75) f fd ["self","book","grove"] (z6z K C_Play C_Book):=by
 refine F.okX zlf (fun vs H Q E h=>?_) (fun cdv A outer s H vs Q E hr h=>?_)
 ·obtain ⟨x,dx,bv,gv,b,g,rfl,_⟩:=h
  rfl
 obtain ⟨x,dx,bv,gv,b,g,rfl,hx,hbk,bl,hg,gd,gp,gn,q⟩:=h
 have hun2:=hunT hr
 refine ⟨_,pss_cons (ps_expr (z0p G_q37 (hr.mono (by omega)) rfl (takes_of rfl rfl rfl rfl) (pa_cons (pv 1) (pa_cons (pv 2) pa_nil))))
  (pss_cons (ps_fld (pv 0) (pv 1) rfl)
  (pss_cons (ps_fld (pv 0) (pe_lst (pa_cons (pv 2) pa_nil)) rfl)
  (pss_cons (ps_fld (pv 0) (pe_lst pa_nil) rfl)
  (pss_one (ps_fld (pv 0) (pe_lst pa_nil) rfl))))),?_⟩
 refine ⟨_,rfl,_,rfl,bv,gv,b,g,rfl,hbk,hg,bl,gd,gp,gn,fun H1 s1=>?_⟩
 have hx1:=s1.keep _ _ hx nmn
 refine ⟨_,rfl,_,rfl,x,_,dx,_,rfl,hx1,T_Play.c,T_Play.no _ (by simp),by decide,?_⟩
 have e1:putF (Str.ofString "book") bv []=[(Str.ofString "book",bv)]:=rfl
 rw [e1]
 have t2:SB [x] H1 (upd H1 x (.ins C_Play dx [(Str.ofString "book",bv)])):=SB.setG hx1 (by simp) (fun _ z=>nomatch z) (fun _ _ z=>nomatch z) _
 have hx2:upd H1 x (.ins C_Play dx [(Str.ofString "book",bv)]) x=some (.ins C_Play dx [(Str.ofString "book",bv)]):=upd_same
 have hg2:=GA.sb (hg.sb s1) t2
 have s02:=(s1.nil (ps:=[x])).trans t2
 generalize upd H1 x (.ins C_Play dx [(Str.ofString "book",bv)])=H2 at t2 hx2 hg2 s02
 refine ⟨_,rfl,by show 1<=sizeLine; decide,fun ls nls=>?_⟩
 have t3:=SB.new (ps:=[]) nls (.lst [gv])
 have hs3:upd H2 ls (.lst [gv]) ls=some (.lst [gv]):=upd_same
 have hx3:=t3.keep _ _ hx2 nmn
 have hg3:=hg2.sb t3
 have s03:=s02.trans (t3.nil (ps:=[x]))
 have nls0:=s02.dom _ nls
 generalize upd H2 ls (.lst [gv])=H3 at t3 hs3 hx3 hg3 s03
 refine ⟨_,rfl,x,_,dx,_,rfl,hx3,T_Play.c,T_Play.no _ (by simp),by simp,?_⟩
 have e4:putF (Str.ofString "stood") (V.ref ls) [(Str.ofString "book",bv)]=[(Str.ofString "book",bv),(Str.ofString "stood",V.ref ls)]:=rfl
 rw [e4]
 have t4:SB [x] H3 (upd H3 x (.ins C_Play dx [(Str.ofString "book",bv),(Str.ofString "stood",V.ref ls)])):=SB.setG hx3 (by simp) (fun _ z=>nomatch z) (fun _ _ z=>nomatch z) _
 have hx4:upd H3 x (.ins C_Play dx [(Str.ofString "book",bv),(Str.ofString "stood",V.ref ls)]) x=some (.ins C_Play dx [(Str.ofString "book",bv),(Str.ofString "stood",V.ref ls)]):=upd_same
 have lx:ls ≠ x:=ne_of hs3 hx3 (fun z=>nomatch z)
 have hs4:=t4.keep _ _ hs3 (by simpa using lx)
 have hg4:=GA.sb hg3 t4
 have s04:=s03.trans t4
 generalize upd H3 x (.ins C_Play dx [(Str.ofString "book",bv),(Str.ofString "stood",V.ref ls)])=H4 at t4 hx4 hs4 hg4 s04
 refine ⟨by show 0<=sizeLine; decide,fun ld nld=>?_⟩
 have t5:=SB.new (ps:=[]) nld (.lst [])
 have hd5:upd H4 ld (.lst []) ld=some (.lst []):=upd_same
 have hx5:=t5.keep _ _ hx4 nmn
 have hs5:=t5.keep _ _ hs4 nmn
 have hg5:=hg4.sb t5
 have s05:=s04.trans (t5.nil (ps:=[x]))
 have nld0:=s04.dom _ nld
 have n1:ls ≠ ld:=ne_of_none hs4 nld
 generalize upd H4 ld (.lst [])=H5 at t5 hd5 hx5 hs5 hg5 s05
 refine ⟨_,rfl,x,_,dx,_,rfl,hx5,T_Play.c,T_Play.no _ (by simp),by simp,?_⟩
 have e6:putF (Str.ofString "done") (V.ref ld) [(Str.ofString "book",bv),(Str.ofString "stood",V.ref ls)]=[(Str.ofString "book",bv),(Str.ofString "stood",V.ref ls),(Str.ofString "done",V.ref ld)]:=rfl
 rw [e6]
 have t6:SB [x] H5 (upd H5 x (.ins C_Play dx [(Str.ofString "book",bv),(Str.ofString "stood",V.ref ls),(Str.ofString "done",V.ref ld)])):=SB.setG hx5 (by simp) (fun _ z=>nomatch z) (fun _ _ z=>nomatch z) _
 have hx6:upd H5 x (.ins C_Play dx [(Str.ofString "book",bv),(Str.ofString "stood",V.ref ls),(Str.ofString "done",V.ref ld)]) x=some (.ins C_Play dx [(Str.ofString "book",bv),(Str.ofString "stood",V.ref ls),(Str.ofString "done",V.ref ld)]):=upd_same
 have dx':ld ≠ x:=ne_of hd5 hx5 (fun z=>nomatch z)
 have hs6:=t6.keep _ _ hs5 (by simpa using lx)
 have hd6:=t6.keep _ _ hd5 (by simpa using dx')
 have hg6:=GA.sb hg5 t6
 have s06:=s05.trans t6
 generalize upd H5 x (.ins C_Play dx [(Str.ofString "book",bv),(Str.ofString "stood",V.ref ls),(Str.ofString "done",V.ref ld)])=H6 at t6 hx6 hs6 hd6 hg6 s06
 refine ⟨by show 0<=sizeLine; decide,fun lu nlu=>?_⟩
 have t7:=SB.new (ps:=[]) nlu (.lst [])
 have hu7:upd H6 lu (.lst []) lu=some (.lst []):=upd_same
 have hx7:=t7.keep _ _ hx6 nmn
 have hs7:=t7.keep _ _ hs6 nmn
 have hd7:=t7.keep _ _ hd6 nmn
 have hg7:=hg6.sb t7
 have s07:=s06.trans (t7.nil (ps:=[x]))
 have nlu0:=s06.dom _ nlu
 have n2:ls ≠ lu:=ne_of_none hs6 nlu
 have n3:ld ≠ lu:=ne_of_none hd6 nlu
 generalize upd H6 lu (.lst [])=H7 at t7 hu7 hx7 hs7 hd7 hg7 s07
 refine ⟨_,rfl,x,_,dx,_,rfl,hx7,T_Play.c,T_Play.no _ (by simp),by simp,?_⟩
 have e8:putF (Str.ofString "undone") (V.ref lu) [(Str.ofString "book",bv),(Str.ofString "stood",V.ref ls),(Str.ofString "done",V.ref ld)]=plF bv ls ld lu:=rfl
 rw [e8]
 have t8:SB [x] H7 (upd H7 x (.ins C_Play dx (plF bv ls ld lu))):=SB.setG hx7 (by simp) (fun _ z=>nomatch z) (fun _ _ z=>nomatch z) _
 have ux:lu ≠ x:=ne_of hu7 hx7 (fun z=>nomatch z)
 exact q ls ld lu _ (s07.trans t8) nls0 nld0 nlu0 ⟨⟨dx,upd_same⟩,⟨_,t8.keep _ _ hs7 (by simpa using lx),.cons (GA.sb hg7 t8) .nil⟩,⟨_,t8.keep _ _ hd7 (by simpa using dx'),.nil⟩,⟨_,t8.keep _ _ hu7 (by simpa using ux),.nil⟩,n1,n2,n3⟩
abbrev zkx:List Str:=["self"]
theorem zjb:FnScope zkx ["self"] (defScope z5h):=⟨rfl,rfl,rfl,by decide +kernel,rfl,by decide +kernel,by decide +kernel⟩
theorem zja {C_Play:Addr} (B:BI mg) (T_Play:ClsF K C_Play ["book","stood","done","undone"]) (F:Fun K "grove" "Play.grove" z5h f fd):FnOk P w K mg base CX0 (1) f fd ["self"] (z1h K C_Play):=by
 refine F.ok zjb (fun vs H Q E h=>?_) (fun cdv A outer s H vs Q E hr h=>?_)
 ·obtain ⟨a,ls,ld,lu,bv,gs,g,ds,us,rfl,_⟩:=h
  rfl
 obtain ⟨a,ls,ld,lu,bv,gs,g,ds,us,rfl,hp,q⟩:=h
 have hun2:=hunT hr
 refine ⟨_,pss_one (ps_ret (pe_ix ix_list (pe_fld (pv 0) rfl) (pe_un un_neg pe_int) (fun _ _=>rfl))),?_⟩
 obtain ⟨dx,hi⟩:=hp.ins
 obtain ⟨vs,hs,hb⟩:=hp.st
 obtain ⟨us',u,rfl,_,hu⟩:=hb.last
 exact ⟨_,rfl,a,_,dx,_,_,rfl,hi,T_Play.c,T_Play.no _ (by simp),rfl,1,rfl,ls,_,-1,u,rfl,rfl,SqL.of hs,z2c,q u hu⟩
abbrev zkq:List Str:=["self"]
theorem zi2:FnScope zkq ["self"] (defScope z5p):=⟨rfl,rfl,rfl,by decide +kernel,rfl,by decide +kernel,by decide +kernel⟩
theorem zhu {C_Play:Addr} (B:BI mg) (T_Play:ClsF K C_Play ["book","stood","done","undone"]) (F:Fun K "falls" "Play.falls" z5p f fd):FnOk P w K mg base CX0 (1) f fd ["self"] (z4w K C_Play):=by
 refine F.ok zi2 (fun vs H Q E h=>?_) (fun cdv A outer s H vs Q E hr h=>?_)
 ·obtain ⟨a,ls,ld,lu,bv,gs,ds,us,rfl,_⟩:=h
  rfl
 obtain ⟨a,ls,ld,lu,bv,gs,ds,us,rfl,hp,q⟩:=h
 have hun2:=hunT hr
 refine ⟨_,pss_one (ps_ret (pe_callTy call_list_of rfl B.list boot_list (pa_cons (pe_fld (pv 0) rfl) pa_nil))),?_⟩
 obtain ⟨dx,hi⟩:=hp.ins
 obtain ⟨vs,hs,hb⟩:=hp.dn
 refine ⟨_,rfl,a,_,dx,_,_,rfl,hi,T_Play.c,T_Play.no _ (by simp),rfl,ld,vs,rfl,.inl (SqL.of hs),fun l nl=>?_⟩
 exact q l vs _ (SB.new nl _) nl upd_same (hb.sb (SB.new (ps:=[]) nl _) z05)
abbrev N_q9:List Str:=["self","place","rule","number","behind","changed"]
theorem sc_q9:FnScope N_q9 ["self","place","rule","number"] (defScope s_q9):=⟨rfl,rfl,rfl,by decide +kernel,rfl,by decide +kernel,by decide +kernel⟩
theorem zld {C_Play C_Book C_NoPlace C_NoRule C_NoNumber C_TooGreat:Addr} (B:BI mg) (T_Play:ClsF K C_Play ["book","stood","done","undone"]) (G_q43:GotX P w K mg base "fallen" ["book","grove","place","rule","number"] (74) (z1c K C_Book C_NoPlace C_NoRule C_NoNumber C_TooGreat)) (G_q11:GotM P w K mg base C_Play "grove" ["self"] (1) (z1h K C_Play)) (F:Fun K "fall" "Play.fall" s_q9 f fd):FnOk P w K mg base (L2.CX P w) (76) f fd ["self","place","rule","number"] (z2p K C_Play C_Book C_NoPlace C_NoRule C_NoNumber C_TooGreat):=by
 refine F.okX sc_q9 (fun vs H Q E h=>?_) (fun cdv A outer s H vs Q E hr h=>?_)
 ·obtain ⟨a,ls,ld,lu,pa,bv,x,y,b,gs,g,ds,us,D,xs,os,ro,so,rfl,_⟩:=h
  rfl
 obtain ⟨a,ls,ld,lu,pa,bv,x,y,b,gs,g,ds,us,D,xs,os,ro,so,rfl,⟨hp,gl,dl⟩,⟨hbk,ok⟩,⟨go,gd,gp,gn⟩,⟨hpa,hos⟩,hx,hy,nb,qP,q⟩:=h
 have hun2:=hunT hr
 refine ⟨_,pss_cons (ps_asg (z0p G_q43 (hr.mono (by omega)) rfl (takes_of rfl rfl rfl rfl) (pa_cons (pe_fld (pv 0) rfl) (pa_cons (z13 G_q11 (hr.mono (by omega)) (pv 0)) (pa_cons (pv 1) (pa_cons (pv 2) (pa_cons (pv 3) pa_nil)))))) (pg_tup rfl (pgs_cons (pg_name (i:=4) sc_q9.nd rfl (.inl rfl)) (pgs_cons (pg_name (i:=5) sc_q9.nd rfl (.inl rfl)) pgs_nil))))
  (pss_cons (ps_expr (pe_bm PySem.F.plainAttrs_list PySem.F.slot_list_append PySem.F.type_list_append mt_append (pe_fld (pv 0) rfl) (pa_cons (pv 4) pa_nil)))
  (pss_cons (ps_expr (pe_bm PySem.F.plainAttrs_list PySem.F.slot_list_append PySem.F.type_list_append mt_append (pe_fld (pv 0) rfl) (pa_cons (pe_tup (pa_cons (pv 1) (pa_cons (pv 2) (pa_cons (pv 3) pa_nil)))) pa_nil)))
  (pss_cons (ps_fld (pv 0) (pe_lst pa_nil) rfl)
  (pss_one (ps_ret (pv 5)))))),?_⟩
 have szl:=sizeLine_eq
 obtain ⟨dx,hi⟩:=hp.ins
 refine ⟨_,rfl,a,_,dx,_,_,rfl,hi,T_Play.c,T_Play.no _ (by simp),rfl,?_⟩
 refine ⟨_,rfl,a,dx,_,rfl,hi,rfl,?_⟩
 refine nilI ?_
 refine ⟨a,ls,ld,lu,bv,gs,g,ds,us,rfl,hp,fun gv hg=>?_⟩
 refine ⟨_,rfl,_,rfl,_,rfl,bv,gv,x,y,pa,b,g,D,xs,os,ro,so,rfl,⟨hbk,ok⟩,⟨hg,go,gd,gp,gn⟩,⟨hpa,hos⟩,hx,hy,nb,qP,fun pl k kd e1 e2 e3=>?_⟩
 obtain ⟨q1,q2⟩:=q pl k kd e1 e2 e3
 refine ⟨q1,fun i r e4 e5=>?_⟩
 obtain ⟨q3,q4⟩:=q2 i r e4 e5
 refine ⟨q3,fun n e6 n0=>?_⟩
 obtain ⟨q5,q6⟩:=q4 n e6 n0
 refine ⟨q5,fun hin t u p H1 s1 nt ht hu hpp=>?_⟩
 subst e1 e4 e6
 obtain rfl:=hos.ints
 obtain rfl:=hx.int
 obtain rfl:=hy.int
 refine ⟨t,_,rfl,ht,rfl,_,_,rfl,_,_,rfl,rfl,?_⟩
 have hp1:=hp.sb0 s1
 obtain ⟨⟨dx,hi⟩,⟨v1,hs1,bs1⟩,⟨v2,hd1,bd1⟩,_,m1,m2,m3⟩:=hp1
 have ns:a ≠ ls:=ne_of hi hs1 (fun z=>nomatch z)
 have nd:a ≠ ld:=ne_of hi hd1 (fun z=>nomatch z)
 have l1:=bs1.length
 have l2:=bd1.length
 rw [List.length_append,List.length_singleton] at l1
 refine ⟨_,rfl,a,_,dx,_,_,rfl,hi,T_Play.c,T_Play.no _ (by simp),rfl,.inl ⟨rfl,_,SqL.of hs1⟩,_,rfl,ls,_,_,rfl,rfl,hs1,by omega,?_⟩
 have t2:=SB.set (ps:=[ls]) hs1 (by simp) (.lst (v1++[u]))
 have hs2:upd H1 ls (.lst (v1++[u])) ls=some (.lst (v1++[u])):=upd_same
 have hi2:=t2.keep _ _ hi (by simpa using ns)
 have hd2:=t2.keep _ _ hd1 (by simpa using fun z:ld=ls=>m1 z.symm)
 have hpa2:=t2.sqT (s1.sqT hpa)
 have hb2:Bears K _ Gr.enc (v1++[u]) (gs++[g]++[_]):=(bs1.sb t2 Gr.noList_enc).append (.cons (GA.sb hu t2) .nil)
 have hc2:=bd1.sb t2 z05
 have hp2:=z01 t2 _ _ (z08 _) hpp
 have s02:SB [a,ls,ld] H _:=s1.nil.trans (t2.mono (by simp))
 generalize upd H1 ls (.lst (v1++[u]))=H2 at t2 hs2 hi2 hd2 hpa2 hb2 hc2 hp2 s02
 refine ⟨_,rfl,a,_,dx,_,_,rfl,hi2,T_Play.c,T_Play.no _ (by simp),rfl,.inl ⟨rfl,_,SqL.of hd2⟩,_,rfl,_,rfl,_,rfl,by show 3<=sizeLine; decide,fun T nT=>?_⟩
 have t3:=SB.new (ps:=[]) nT (.tup [.ref pa,.int (i:Nat),.int n])
 have hT:SqT K (upd H2 T (.tup [.ref pa,.int (i:Nat),.int n])) T [.ref pa,.int (i:Nat),.int n]:=SqT.of upd_same
 have hs3:=t3.keep _ _ hs2 nmn
 have hi3:=t3.keep _ _ hi2 nmn
 have hd3:=t3.keep _ _ hd2 nmn
 have hf3:Dp K _ (.ref T) (faE (pl,i,n)):=.tup hT (.cons (z27 (t3.sqT hpa2)) (.cons (.int _) (.cons (.int _) .nil)))
 have hb3:=hb2.sb t3 Gr.noList_enc
 have hc3:=hc2.sb t3 z05
 have hp3:=z01 t3 _ _ (z08 _) hp2
 have s03:=s02.trans (t3.nil (ps:=[a,ls,ld]))
 generalize upd H2 T (.tup [.ref pa,.int (i:Nat),.int n])=H3 at t3 hT hs3 hi3 hd3 hf3 hb3 hc3 hp3 s03
 refine ⟨ld,_,_,rfl,rfl,hd3,by omega,?_⟩
 have t4:=SB.set (ps:=[ld]) hd3 (by simp) (.lst (v2++[.ref T]))
 have hd4:upd H3 ld (.lst (v2++[.ref T])) ld=some (.lst (v2++[.ref T])):=upd_same
 have hs4:=t4.keep _ _ hs3 (by simpa using m1)
 have hi4:=t4.keep _ _ hi3 (by simpa using nd)
 have hb4:=hb3.sb t4 Gr.noList_enc
 have hc4:Bears K _ faE (v2++[.ref T]) (ds++[(pl,i,n)]):=(hc3.sb t4 z05).append (.cons (z01 t4 _ _ (z05 _) hf3) .nil)
 have hp4:=z01 t4 _ _ (z08 _) hp3
 have s04:=s03.trans (t4.mono (qs:=[a,ls,ld]) (by simp))
 generalize upd H3 ld (.lst (v2++[.ref T]))=H4 at t4 hd4 hs4 hi4 hb4 hc4 hp4 s04
 refine ⟨by show 0<=sizeLine; decide,fun lu' nlu=>?_⟩
 have t5:=SB.new (ps:=[]) nlu (.lst [])
 have hu5:upd H4 lu' (.lst []) lu'=some (.lst []):=upd_same
 have hd5:=t5.keep _ _ hd4 nmn
 have hs5:=t5.keep _ _ hs4 nmn
 have hi5:=t5.keep _ _ hi4 nmn
 have hb5:=hb4.sb t5 Gr.noList_enc
 have hc5:=hc4.sb t5 z05
 have hp5:=z01 t5 _ _ (z08 _) hp4
 have s05:=s04.trans (t5.nil (ps:=[a,ls,ld]))
 have nlu0:=s04.dom _ nlu
 have w2:ls ≠ lu':=ne_of_none hs4 nlu
 have w3:ld ≠ lu':=ne_of_none hd4 nlu
 generalize upd H4 lu' (.lst [])=H5 at t5 hu5 hd5 hs5 hi5 hb5 hc5 hp5 s05
 refine ⟨_,rfl,a,_,dx,_,rfl,hi5,T_Play.c,T_Play.no _ (by simp),by simp,?_⟩
 have e6:putF (Str.ofString "undone") (V.ref lu') (plF bv ls ld lu)=plF bv ls ld lu':=rfl
 rw [e6]
 have t6:SB [a] H5 (upd H5 a (.ins C_Play dx (plF bv ls ld lu'))):=SB.setG hi5 (by simp) (fun _ z=>nomatch z) (fun _ _ z=>nomatch z) _
 have au:lu' ≠ a:=ne_of hu5 hi5 (fun z=>nomatch z)
 refine ⟨_,rfl,q6 hin lu' p _ (s05.trans (t6.mono (by simp))) nlu0 ⟨⟨dx,upd_same⟩,⟨_,t6.keep _ _ hs5 (by simpa using fun z:ls=a=>ns z.symm),hb5.sb t6 Gr.noList_enc⟩,⟨_,t6.keep _ _ hd5 (by simpa using fun z:ld=a=>nd z.symm),hc5.sb t6 z05⟩,⟨_,t6.keep _ _ hu5 (by simpa using au),.nil⟩,m1,w2,w3⟩ (z01 t6 _ _ (z08 _) hp5)⟩
abbrev N_q8:List Str:=["self"]
theorem zl1:FnScope N_q8 ["self"] (defScope s_q8):=⟨rfl,rfl,rfl,by decide +kernel,rfl,by decide +kernel,by decide +kernel⟩
theorem zls {C_NoFall C_Play:Addr} (B:BI mg) (O_NoFall:Own K mg "NoFall" C_NoFall) (T_Play:ClsF K C_Play ["book","stood","done","undone"]) (G_q11:GotM P w K mg base C_Play "grove" ["self"] (1) (z1h K C_Play)) (F:Fun K "back" "Play.back" s_q8 f fd):FnOk P w K mg base (L2.CX P w) (3) f fd ["self"] (z44 K C_Play C_NoFall):=by
 refine F.okX zl1 (fun vs H Q E h=>?_) (fun cdv A outer s H vs Q E hr h=>?_)
 ·obtain ⟨a,ls,ld,lu,bv,gs,ds,us,rfl,_⟩:=h
  rfl
 obtain ⟨a,ls,ld,lu,bv,gs,ds,us,rfl,hp,ul,qE,q⟩:=h
 have hun2:=hunT hr
 refine ⟨_,pss_cons (ps_if (pt_not (pt_truth (pe_fld (pv 0) rfl) (by intro _; rfl))) (pss_one (ps_raise rfl (takes_of rfl rfl rfl rfl) (pmk_own PySem.F.excBase_ValueError O_NoFall.q O_NoFall.gC O_NoFall.k (raises_own O_NoFall.s O_NoFall.t) rfl))) pss_nil)
  (pss_cons (ps_expr (pe_bm PySem.F.plainAttrs_list PySem.F.slot_list_append PySem.F.type_list_append mt_append (pe_fld (pv 0) rfl) (pa_cons (pe_tup (pa_cons (pe_bm0 PySem.F.plainAttrs_list PySem.F.slot_list_pop PySem.F.type_list_pop mt_pop (pe_fld (pv 0) rfl)) (pa_cons (pe_bm0 PySem.F.plainAttrs_list PySem.F.slot_list_pop PySem.F.type_list_pop mt_pop (pe_fld (pv 0) rfl)) pa_nil))) pa_nil)))
  (pss_one (ps_ret (z13 G_q11 (hr.mono (by omega)) (pv 0))))),?_⟩
 have szl:=sizeLine_eq
 have hp0:=hp
 obtain ⟨⟨dx,hi⟩,⟨v1,hs,bs⟩,⟨v2,hd,bd⟩,⟨v3,hu,bu⟩,m1,m2,m3⟩:=hp
 refine ⟨_,rfl,a,_,dx,_,_,rfl,hi,T_Play.c,T_Play.no _ (by simp),rfl,_,.inl ⟨v2,SqL.of hd,rfl⟩,?_⟩
 have l2:=bd.length
 by_cases hds:ds=[]
 ·subst hds
  have e2:v2=[]:=List.length_eq_zero_iff.mp l2
  subst e2
  exact iteT (qE rfl _ SB.refl)
 obtain ⟨g0,h,g,d0,f0,rfl,rfl,qq⟩:=q hds
 obtain ⟨w1,u1,rfl,bs1,hg⟩:=bs.last
 obtain ⟨w2,u2,rfl,bd1,hf0⟩:=bd.last
 rw [show (w2++[u2]).isEmpty=false by simp]
 have ns:a ≠ ls:=ne_of hi hs (fun z=>nomatch z)
 have nd:a ≠ ld:=ne_of hi hd (fun z=>nomatch z)
 have nu:a ≠ lu:=ne_of hi hu (fun z=>nomatch z)
 refine iteF ⟨_,rfl,a,_,dx,_,_,rfl,hi,T_Play.c,T_Play.no _ (by simp),rfl,.inl ⟨rfl,_,SqL.of hu⟩,?_⟩
 refine ⟨_,rfl,a,_,dx,_,_,rfl,hi,T_Play.c,T_Play.no _ (by simp),rfl,.inl ⟨rfl,_,SqL.of hd⟩,ld,_,u2,rfl,rfl,hd,by simp,?_⟩
 rw [List.dropLast_concat]
 have t1:=SB.set (ps:=[ld]) hd (by simp) (.lst w2)
 have hd1:upd H ld (.lst w2) ld=some (.lst w2):=upd_same
 have hi1:=t1.keep _ _ hi (by simpa using nd)
 have hs1:=t1.keep _ _ hs (by simpa using m1)
 have hu1:=t1.keep _ _ hu (by simpa using fun z:lu=ld=>m3 z.symm)
 have cs1:=bs1.sb t1 Gr.noList_enc
 have cd1:=bd1.sb t1 z05
 have cu1:=bu.sb t1 z0m
 have cg1:=z01 t1 _ _ (Gr.noList_enc _) hg
 have cf1:=z01 t1 _ _ (z05 _) hf0
 have s01:SB [ls,ld,lu] H _:=t1.mono (by simp)
 generalize upd H ld (.lst w2)=H1 at t1 hd1 hi1 hs1 hu1 cs1 cd1 cu1 cg1 cf1 s01
 refine ⟨_,rfl,a,_,dx,_,_,rfl,hi1,T_Play.c,T_Play.no _ (by simp),rfl,.inl ⟨rfl,_,SqL.of hs1⟩,ls,_,u1,rfl,rfl,hs1,by simp,?_⟩
 rw [List.dropLast_concat]
 have t2:=SB.set (ps:=[ls]) hs1 (by simp) (.lst w1)
 have hs2:upd H1 ls (.lst w1) ls=some (.lst w1):=upd_same
 have hi2:=t2.keep _ _ hi1 (by simpa using ns)
 have hd2:=t2.keep _ _ hd1 (by simpa using fun z:ld=ls=>m1 z.symm)
 have hu2:=t2.keep _ _ hu1 (by simpa using fun z:lu=ls=>m2 z.symm)
 have cs2:=cs1.sb t2 Gr.noList_enc
 have cd2:=cd1.sb t2 z05
 have cu2:=cu1.sb t2 z0m
 have cg2:=z01 t2 _ _ (Gr.noList_enc _) cg1
 have cf2:=z01 t2 _ _ (z05 _) cf1
 have s02:=s01.trans (t2.mono (qs:=[ls,ld,lu]) (by simp))
 generalize upd H1 ls (.lst w1)=H2 at t2 hs2 hi2 hd2 hu2 cs2 cd2 cu2 cg2 cf2 s02
 refine ⟨by show 2<=sizeLine; decide,fun T nT=>?_⟩
 have t3:=SB.new (ps:=[]) nT (.tup [u2,u1])
 have hT:SqT K (upd H2 T (.tup [u2,u1])) T [u2,u1]:=SqT.of upd_same
 have hi3:=t3.keep _ _ hi2 nmn
 have hs3:=t3.keep _ _ hs2 nmn
 have hd3:=t3.keep _ _ hd2 nmn
 have hu3:=t3.keep _ _ hu2 nmn
 have cs3:=cs2.sb t3 Gr.noList_enc
 have cd3:=cd2.sb t3 z05
 have cu3:=cu2.sb t3 z0m
 have cT:Dp K _ (.ref T) (fgE (f0,g)):=.tup hT (.cons (z01 t3 _ _ (z05 _) cf2) (.cons (z01 t3 _ _ (Gr.noList_enc _) cg2) .nil))
 have s03:=s02.trans (t3.nil (ps:=[ls,ld,lu]))
 generalize upd H2 T (.tup [u2,u1])=H3 at t3 hT hi3 hs3 hd3 hu3 cs3 cd3 cu3 cT s03
 have l3:=cu3.length
 refine ⟨lu,_,_,rfl,rfl,hu3,by omega,?_⟩
 have t4:=SB.set (ps:=[lu]) hu3 (by simp) (.lst (v3++[.ref T]))
 have s04:=s03.trans (t4.mono (qs:=[ls,ld,lu]) (by simp))
 have hp4:Ply K C_Play (upd H3 lu (.lst (v3++[.ref T]))) bv a ls ld lu (g0++[h]) d0 (us++[(f0,g)]):=⟨⟨dx,t4.keep _ _ hi3 (by simpa using nu)⟩,⟨w1,t4.keep _ _ hs3 (by simpa using m2),cs3.sb t4 Gr.noList_enc⟩,⟨w2,t4.keep _ _ hd3 (by simpa using m3),cd3.sb t4 z05⟩,⟨_,upd_same,(cu3.sb t4 z0m).append (.cons (z01 t4 _ _ (z0m _) cT) .nil)⟩,m1,m2,m3⟩
 generalize upd H3 lu (.lst (v3++[.ref T]))=H4 at t4 s04 hp4
 obtain ⟨dx',hi4⟩:=hp4.ins
 refine ⟨_,rfl,a,dx',_,rfl,hi4,rfl,?_⟩
 refine nilI ?_
 exact ⟨a,ls,ld,lu,bv,g0,h,d0,_,rfl,hp4,fun v hv=>qq v _ s04 hp4 hv⟩
abbrev N_q7:List Str:=["self","row","behind"]
theorem sc_q7:FnScope N_q7 ["self"] (defScope s_q7):=⟨rfl,rfl,rfl,by decide +kernel,rfl,by decide +kernel,by decide +kernel⟩
theorem zly {C_NoFall C_Play:Addr} (B:BI mg) (O_NoFall:Own K mg "NoFall" C_NoFall) (T_Play:ClsF K C_Play ["book","stood","done","undone"]) (F:Fun K "again" "Play.again" s_q7 f fd):FnOk P w K mg base (L2.CX P w) (3) f fd ["self"] (z8v K C_Play C_NoFall):=by
 refine F.okX sc_q7 (fun vs H Q E h=>?_) (fun cdv A outer s H vs Q E hr h=>?_)
 ·obtain ⟨a,ls,ld,lu,bv,gs,ds,us,rfl,_⟩:=h
  rfl
 obtain ⟨a,ls,ld,lu,bv,gs,ds,us,rfl,hp,gl,dl,qE,q⟩:=h
 have hun2:=hunT hr
 refine ⟨_,pss_cons (ps_if (pt_not (pt_truth (pe_fld (pv 0) rfl) (by intro _; rfl))) (pss_one (ps_raise rfl (takes_of rfl rfl rfl rfl) (pmk_own PySem.F.excBase_ValueError O_NoFall.q O_NoFall.gC O_NoFall.k (raises_own O_NoFall.s O_NoFall.t) rfl))) pss_nil)
  (pss_cons (ps_asg (pe_bm0 PySem.F.plainAttrs_list PySem.F.slot_list_pop PySem.F.type_list_pop mt_pop (pe_fld (pv 0) rfl)) (pg_tup rfl (pgs_cons (pg_name (i:=1) sc_q7.nd rfl (.inl rfl)) (pgs_cons (pg_name (i:=2) sc_q7.nd rfl (.inl rfl)) pgs_nil))))
  (pss_cons (ps_expr (pe_bm PySem.F.plainAttrs_list PySem.F.slot_list_append PySem.F.type_list_append mt_append (pe_fld (pv 0) rfl) (pa_cons (pv 1) pa_nil)))
  (pss_cons (ps_expr (pe_bm PySem.F.plainAttrs_list PySem.F.slot_list_append PySem.F.type_list_append mt_append (pe_fld (pv 0) rfl) (pa_cons (pv 2) pa_nil)))
  (pss_one (ps_ret (pv 2)))))),?_⟩
 have szl:=sizeLine_eq
 obtain ⟨⟨dx,hi⟩,⟨v1,hs,bs⟩,⟨v2,hd,bd⟩,⟨v3,hu,bu⟩,m1,m2,m3⟩:=hp
 refine ⟨_,rfl,a,_,dx,_,_,rfl,hi,T_Play.c,T_Play.no _ (by simp),rfl,_,.inl ⟨v3,SqL.of hu,rfl⟩,?_⟩
 have l3:=bu.length
 by_cases hus:us=[]
 ·subst hus
  have e3:v3=[]:=List.length_eq_zero_iff.mp l3
  subst e3
  exact iteT (qE rfl _ SB.refl)
 obtain ⟨u0,f0,g,rfl,qq⟩:=q hus
 obtain ⟨w3,u3,rfl,bu1,hfg⟩:=bu.last
 rw [show (w3++[u3]).isEmpty=false by simp]
 have ns:a ≠ ls:=ne_of hi hs (fun z=>nomatch z)
 have nd:a ≠ ld:=ne_of hi hd (fun z=>nomatch z)
 have nu:a ≠ lu:=ne_of hi hu (fun z=>nomatch z)
 refine iteF ⟨_,rfl,a,_,dx,_,_,rfl,hi,T_Play.c,T_Play.no _ (by simp),rfl,.inl ⟨rfl,_,SqL.of hu⟩,lu,_,u3,rfl,rfl,hu,by simp,?_⟩
 rw [List.dropLast_concat]
 have t1:=SB.set (ps:=[lu]) hu (by simp) (.lst w3)
 have hu1:upd H lu (.lst w3) lu=some (.lst w3):=upd_same
 have hi1:=t1.keep _ _ hi (by simpa using nu)
 have hs1:=t1.keep _ _ hs (by simpa using m2)
 have hd1:=t1.keep _ _ hd (by simpa using m3)
 have cs1:=bs.sb t1 Gr.noList_enc
 have cd1:=bd.sb t1 z05
 have cu1:=bu1.sb t1 z0m
 have cf1:=z01 t1 _ _ (z0m _) hfg
 have s01:SB [ls,ld,lu] H _:=t1.mono (by simp)
 generalize upd H lu (.lst w3)=H1 at t1 hu1 hi1 hs1 hd1 cs1 cd1 cu1 cf1 s01
 obtain ⟨T,x1,x2,rfl,hT,hf0,hg⟩:∃ T x1 x2,u3=.ref T/\SqT K H1 T [x1,x2]/\Dp K H1 x1 (faE f0)/\Dp K H1 x2 g.enc:=by
  cases (cf1:Dp K H1 u3 (.tuple [faE f0,g.enc])) with
  | tup hT hall =>
  cases hall with
  | cons hf0 hall =>
  cases hall with
  | cons hg hall =>
  cases hall
  exact ⟨_,_,_,rfl,hT,hf0,hg⟩
 refine ⟨_,_,rfl,hT,rfl,_,_,rfl,_,_,rfl,rfl,?_⟩
 have l2:=cd1.length
 refine ⟨_,rfl,a,_,dx,_,_,rfl,hi1,T_Play.c,T_Play.no _ (by simp),rfl,.inl ⟨rfl,_,SqL.of hd1⟩,_,rfl,ld,_,_,rfl,rfl,hd1,by omega,?_⟩
 have t2:=SB.set (ps:=[ld]) hd1 (by simp) (.lst (v2++[x1]))
 have hd2:upd H1 ld (.lst (v2++[x1])) ld=some (.lst (v2++[x1])):=upd_same
 have hi2:=t2.keep _ _ hi1 (by simpa using nd)
 have hs2:=t2.keep _ _ hs1 (by simpa using m1)
 have hu2:=t2.keep _ _ hu1 (by simpa using fun z:lu=ld=>m3 z.symm)
 have cs2:=cs1.sb t2 Gr.noList_enc
 have cd2:=(cd1.sb t2 z05).append (.cons (z01 t2 _ _ (z05 _) hf0) .nil)
 have cu2:=cu1.sb t2 z0m
 have cg2:=z01 t2 _ _ (Gr.noList_enc _) hg
 have s02:=s01.trans (t2.mono (qs:=[ls,ld,lu]) (by simp))
 generalize upd H1 ld (.lst (v2++[x1]))=H2 at t2 hd2 hi2 hs2 hu2 cs2 cd2 cu2 cg2 s02
 have l1:=cs2.length
 refine ⟨_,rfl,a,_,dx,_,_,rfl,hi2,T_Play.c,T_Play.no _ (by simp),rfl,.inl ⟨rfl,_,SqL.of hs2⟩,_,rfl,ls,_,_,rfl,rfl,hs2,by omega,?_⟩
 have t3:=SB.set (ps:=[ls]) hs2 (by simp) (.lst (v1++[x2]))
 have s03:=s02.trans (t3.mono (qs:=[ls,ld,lu]) (by simp))
 refine ⟨_,rfl,qq _ _ s03 ⟨⟨dx,t3.keep _ _ hi2 (by simpa using ns)⟩,⟨_,upd_same,(cs2.sb t3 Gr.noList_enc).append (.cons (z01 t3 _ _ (Gr.noList_enc _) cg2) .nil)⟩,⟨_,t3.keep _ _ hd2 (by simpa using fun z:ld=ls=>m1 z.symm),cd2.sb t3 z05⟩,⟨_,t3.keep _ _ hu2 (by simpa using fun z:lu=ls=>m2 z.symm),cu2.sb t3 z0m⟩,m1,m2,m3⟩ (z01 t3 _ _ (Gr.noList_enc _) cg2)⟩
abbrev zlc:List Str:=["_law_grove_here"]
theorem zjs:FnScope zlc ["_law_grove_here"] (defScope z6o):=⟨rfl,rfl,rfl,by decide +kernel,rfl,by decide +kernel,by decide +kernel⟩
theorem zha (B:BI mg) (G_q18:Got P w K mg base "_law_in" ["_law_grove_here"] (20) (z35 K 20)) (G_q14:Got P w K mg base "_law_deep" ["_law_grove_here"] (70) (z1t K 70)) (F:Fun K "_law_fits" "_law_fits" z6o f fd):FnOk P w K mg base CX0 (71) f fd ["_law_grove_here"] (z76 K):=by
 refine F.ok zjs (fun vs H Q E h=>?_) (fun cdv A outer s H vs Q E hr h=>?_)
 ·obtain ⟨v,g,rfl,_⟩:=h
  rfl
 obtain ⟨v,g,rfl,hv,gd,gp,q⟩:=h
 have hun2:=hunT hr
 refine ⟨_,pss_one (ps_ret (pe_and (pe_cmpR op_le (pe_callB call_len_seq rfl B.len PySem.boot_len (pa_cons (z00 G_q18 (hr.mono (by omega)) rfl (pa_cons (pv 0) pa_nil)) pa_nil)) pe_int (nomark _)) (pe_one (pe_cmpR op_le (z00 G_q14 (hr.mono (by omega)) rfl (pa_cons (pv 0) pa_nil)) pe_int (nomark _))))),?_⟩
 have szl:=sizeLine_eq
 have glp:=g.len_parts
 refine ⟨_,rfl,v,g,rfl,hv,by omega,by omega,fun D ds H1 s1 nD hD hb=>?_⟩
 have dl:=hb.length
 rw [Gr.ins_len] at dl
 refine ⟨D,ds,rfl,.inl (SqL.of hD),_,_,rfl,rfl,?_⟩
 refine ⟨_,rfl,?_⟩
 by_cases h40:((ds.length:Nat):Int)<=40
 ·simp only [decide_eq_true h40,if_true]
  refine ⟨_,rfl,v,g,rfl,hv.sb s1,by omega,by omega,fun x hx=>by have:=Gr.within_small x hx; omega,fun H2 s2=>?_⟩
  refine ⟨_,_,rfl,rfl,?_⟩
  exact q _ _ (s1.trans s2) fun z=>by have:=of_decide_eq_true z; omega
 ·simp only [decide_eq_false h40]
  exact q _ _ s1 fun z=>nomatch z
abbrev zlj:List Str:=["_law_book_here","_law_play","_law_asked_here","_law_many_here","_law_found","_law_lower"]
theorem sc_q12:FnScope zlj ["_law_book_here","_law_play","_law_asked_here","_law_many_here"] (defScope z5x):=⟨rfl,rfl,rfl,by decide +kernel,rfl,by decide +kernel,by decide +kernel⟩
theorem zjk {C_Book C_NoKind C_Play:Addr} (B:BI mg) (G_q70:GotX P w K mg base "rank" ["book","grove"] (73) (z19 K C_Book C_NoKind)) (G_q11:GotM P w K mg base C_Play "grove" ["self"] (1) (z1h K C_Play)) (G_q20:Got P w K mg base "_law_ladder" ["_law_found"] (70) (z1r K 30)) (G_q21:Got P w K mg base "_law_less" ["_law_one","_law_other"] (40) (z1x K 40)) (F:Fun K "_law_asked" "_law_asked" z5x f fd):FnOk P w K mg base CX0 (76) f fd ["_law_book_here","_law_play","_law_asked_here","_law_many_here"] (z1d K C_Play C_Book):=by
 refine F.ok sc_q12 (fun vs H Q E h=>?_) (fun cdv A outer s H vs Q E hr h=>?_)
 ·obtain ⟨a,ls,ld,lu,qa,bv,b,gs,g,ds,us,j,m,ws,as,k0,l0,rfl,_⟩:=h
  rfl
 obtain ⟨a,ls,ld,lu,qa,bv,b,gs,g,ds,us,j,m,ws,as,k0,l0,rfl,hP,⟨hv,B⟩,⟨hA,hj⟩,⟨hq,hws,asl⟩,dl0,hk,q1,q2⟩:=h
 have hun2:=hunT hr
 refine ⟨_,pss_cons (ps_set (i:=4) sc_q12.nd rfl (.inl rfl) (z1u G_q70 (hr.mono (by omega)) rfl (pa_cons (pv 0) (pa_cons (z13 G_q11 (hr.mono (by omega)) (pv 1)) pa_nil))))
  (pss_cons (ps_if (PW.pt (pw_or (pt_not (pt_truth (z00 G_q20 (hr.mono (by omega)) rfl (pa_cons (pv 4) pa_nil)) (by intro _; rfl))) (pw_or1 (pt_cmpR op_ne (pe_cmpR (z34 (by show A.units+3+195 < cLine; omega)) (pv 4) (pe_tup pa_nil) (nomark _)) (pe_cmpR (z34 (by show A.units+3+195 < cLine; omega)) (z13 G_q11 (hr.mono (by omega)) (pv 1)) (pe_tup pa_nil) (nomark _)) (nomark _))))) (pss_one (ps_ret pe_bl)) pss_nil)
  (pss_cons (ps_if (pt_cmpR op_eq (pe_ix ix_tup (pe_ix ix_list (pv 2) (pe_un un_neg pe_int) (fun _ _=>rfl)) pe_int (fun _ _=>rfl)) (pv 3) (nomark _)) (pss_one (ps_ret (pe_cmpR (z34 (by show A.units+3+195 < cLine; omega)) (pv 4) (pe_ix ix_tup (pe_ix ix_list (pv 2) (pe_un un_neg pe_int) (fun _ _=>rfl)) pe_int (fun _ _=>rfl)) (nomark _)))) pss_nil)
  (pss_cons (ps_set (i:=5) sc_q12.nd rfl (.inl rfl) (z00 G_q21 (hr.mono (by omega)) rfl (pa_cons (pv 4) (pa_cons (pe_ix ix_tup (pe_ix ix_list (pv 2) (pe_un un_neg pe_int) (fun _ _=>rfl)) pe_int (fun _ _=>rfl)) pa_nil))))
  (pss_cons (ps_expr (pe_bm PySem.F.plainAttrs_list PySem.F.slot_list_append PySem.F.type_list_append mt_append (pv 2) (pa_cons (pe_tup (pa_cons (pv 3) (pa_cons (pv 4) pa_nil))) pa_nil)))
  (pss_one (ps_ret (pv 5))))))),?_⟩
 have szl:=sizeLine_eq
 obtain ⟨_,rd,ro⟩:=B.fit (ns:=b.names) (fun n hn=>hn) hA hj
 have gd:=hA.deep
 have gp:=hA.parts
 obtain ⟨dx,hi⟩:=hP.ins
 refine ⟨_,rfl,_,rfl,a,dx,_,rfl,hi,rfl,?_⟩
 refine nilI ?_
 refine ⟨a,ls,ld,lu,bv,gs,g,ds,us,rfl,hP,fun gv hg=>?_⟩
 refine nilI ?_
 show z19 _ _ _ _ _ _ _
 refine B.rnk hj hA hg hv fun x H1 s1 hx=>?_
 refine z1y ?_
 have hP1:=hP.sb0 s1
 obtain ⟨dx1,hi1⟩:=hP1.ins
 refine ⟨_,rfl,x,_,_,rfl,hx,ro,by omega,by omega,fun H2 s2=>⟨_,rfl,iteF ?_⟩⟩
 refine ⟨_,rfl,by show 0<=sizeLine; decide,fun z1 nz1=>?_⟩
 have t3:=SB.new (ps:=[]) nz1 (.tup [])
 have s13:=s2.trans t3
 have hx3:=hx.sb s13
 have wdR:Wd (rk95 b g).enc:=Wd.of (Lad.shaped_enc (by omega))
 have wdN:Wd Lad.nil.enc:=Wd.of (Lad.shaped_enc (by decide))
 have hP3:=hP1.sb0 s13
 have s03:=s1.trans s13
 refine ⟨_,_,hx3,z7u (SqT.of upd_same),wdR,wdN,?_⟩
 rw [Lad.eqv_enc]
 generalize upd H2 z1 (.tup [])=H3 at t3 s13 hx3 hP3 s03
 obtain ⟨dx3,hi3⟩:=hP3.ins
 refine ⟨_,rfl,a,dx3,_,rfl,hi3,rfl,?_⟩
 refine nilI ?_
 refine ⟨a,ls,ld,lu,bv,gs,g,ds,us,rfl,hP3,fun gv3 hg3=>?_⟩
 refine ⟨by show 0<=sizeLine; decide,fun z2 nz2=>?_⟩
 have t4:=SB.new (ps:=[]) nz2 (.tup [])
 refine ⟨_,_,GA.sb hg3 t4,zc4 (SqT.of upd_same),Gr.wd hA.ok (by omega),Gr.wd_nil,?_⟩
 rw [Gr.eqv_enc]
 have ei:decide (rk95 b g=Lad.nil)=decide (g=Gr.nil):=decide_eq_decide.mpr (Gr.rk_nilI B.goods hA.ok hA.named)
 have e1:(decide (g=Gr.nil)=true)=(g=Gr.nil):=decide_eq_true_eq
 rw [ei]
 have s4:=s03.trans t4
 have hx4:=hx3.sb t4
 generalize upd H3 z2 (.tup [])=H4 at t4 s4 hx4
 refine ⟨rfl,_,rfl,?_⟩
 rw [decide_eq_true rfl]
 refine iteF (z2s ?_)
 have hq4:=s4.keep _ _ hq nmn
 have hws4:=hws.sb s4 z18
 obtain ⟨ws0,w0,rfl,hb0,hw0⟩:=hws4.last
 obtain ⟨T,lx,rfl,hT,hlx⟩:∃ T lx,w0=.ref T/\SqT K H4 T [.int (k0:Nat),lx]/\LA K H4 lx l0:=by
  cases (hw0:Dp K H4 w0 (.tuple [.int (k0:Nat),l0.enc])) with
  | tup hT hall =>
  cases hall with
  | cons h1 hall =>
  cases hall with
  | cons h2 hall =>
  cases hall
  cases h1
  exact ⟨_,_,rfl,hT,h2⟩
 refine ⟨_,rfl,1,rfl,qa,_,-1,_,rfl,rfl,SqL.of hq4,z2c,T,_,_,_,rfl,rfl,hT,atI_nat (j:=0) rfl,_,rfl,rfl,_,rfl,?_⟩
 by_cases hkm:k0=m
 ·rw [decide_eq_true (show V.int (k0:Nat)=V.int (m:Nat) by rw [hkm])]
  obtain rfl:l0=rk95 b g:=by
   rcases hk with ⟨_,e⟩ | ⟨n,_⟩
   ·exact e
   ·exact absurd hkm n
  refine iteT ⟨_,rfl,_,rfl,1,rfl,qa,_,-1,_,rfl,rfl,SqL.of hq4,z2c,T,_,_,_,rfl,rfl,hT,atI_nat (j:=1) rfl,?_⟩
  refine ⟨_,_,hx4,hlx,wdR,wdR,?_⟩
  rw [Lad.eqv_enc,decide_eq_true rfl]
  exact q1 hkm _ s4
 rw [decide_eq_false (show ¬ V.int (k0:Nat)=V.int (m:Nat) from fun z=>hkm (by have:=V.int.inj z; omega))]
 have hlt:(rk95 b g).lt l0=true:=by
  rcases hk with ⟨e,_⟩ | ⟨_,h⟩
  ·exact absurd e hkm
  ·exact h
 have wl:=hb0.length
 refine iteF (z2s ⟨_,rfl,_,rfl,1,rfl,qa,_,-1,_,rfl,rfl,SqL.of hq4,z2c,T,_,_,_,rfl,rfl,hT,atI_nat (j:=1) rfl,x,lx,_,_,rfl,hx4,hlx,by omega,by omega,by omega,fun H5 s5=>?_⟩)
 rw [hlt]
 refine z1y ?_
 have hq5:=s5.keep _ _ hq4 nmn
 refine ⟨_,rfl,.inl ⟨rfl,_,SqL.of hq5⟩,_,rfl,_,rfl,by show 2<=sizeLine; decide,fun U nU=>?_⟩
 have t6:=SB.new (ps:=[]) nU (.tup [.int (m:Nat),x])
 have hU:Dp K (upd H5 U (.tup [.int (m:Nat),x])) (.ref U) (aE (m,rk95 b g)):=.tup (SqT.of upd_same) (.cons (.int _) (.cons (hx4.sb (s5.trans t6)) .nil))
 have hq6:=t6.keep _ _ hq5 nmn
 have hws6:=hws4.sb (s5.trans t6) z18
 have s06:=(s4.trans s5).trans t6
 generalize upd H5 U (.tup [.int (m:Nat),x])=H6 at t6 hU hq6 hws6 s06
 refine ⟨qa,_,_,rfl,rfl,hq6,by rw [List.length_append]; show ws0.length+1 < sizeLine; omega,?_⟩
 have t7:=SB.set (ps:=[qa]) hq6 (by simp) (.lst (ws0++[.ref T]++[.ref U]))
 exact ⟨_,rfl,q2 hkm _ _ (s06.nil.trans t7) upd_same ((hws6.sb t7 z18).append (.cons (z01 t7 _ _ (z18 _) hU) .nil))⟩
abbrev zlo:List Str:=["_law_book_here","_law_play","_law_stood","_law_asked_here","_law_ranks","_law_k","_law_found","_law_caught","e"]
theorem sc_q26:FnScope zlo ["_law_book_here","_law_play","_law_stood","_law_asked_here"] (defScope z5u):=⟨rfl,rfl,rfl,by decide +kernel,rfl,by decide +kernel,by decide +kernel⟩
theorem zi1 {C_Play C_Book:Addr} {c:Str->Addr} (B:BI mg) (T:zba K mg c eC eN eK) (G_q8:z12 P w K mg base C_Play "back" ["self"] (3) (z44 K C_Play (c "NoFall"))) (G_q11:GotM P w K mg base C_Play "grove" ["self"] (1) (z1h K C_Play)) (G_q70:GotX P w K mg base "rank" ["book","grove"] (73) (z19 K C_Book (c "NoKind"))) (G_q10:GotM P w K mg base C_Play "falls" ["self"] (1) (z4w K C_Play)) (F:Fun K "_law_taken_back" "_law_taken_back" z5u f fd):FnOk P w K mg base CX0 (78) f fd ["_law_book_here","_law_play","_law_stood","_law_asked_here"] (z4s K C_Play C_Book):=by
 refine F.ok sc_q26 (fun vs H Q E h=>?_) (fun cdv A outer s H vs Q E hr h=>?_)
 ·obtain ⟨a,ls,ld,lu,qa,sa,bv,b,gs,ds,us,ws,zs,as,rfl,_⟩:=h
  rfl
 obtain ⟨a,ls,ld,lu,qa,sa,bv,b,gs,ds,us,ws,zs,as,rfl,hP,⟨hv,BB⟩,gl,dl,ul,hat,⟨hs,hz⟩,⟨hq,hws,asl,nda,has⟩,⟨ns,nq⟩,q⟩:=h
 have hun2:=hunT hr
 refine ⟨_,pss_cons (ps_set (i:=4) sc_q26.nd rfl (.inl rfl) (pe_callTy (call_dictP rfl) rfl B.dict boot_dict (pa_cons (pv 3) pa_nil)))
  (pss_cons (ps_for PassesOwn.never rfl (pi_range3 rfl B.range (pa_cons (pe_op op_sub (pe_callB call_len_seq rfl B.len PySem.boot_len (pa_cons (pv 2) pa_nil)) pe_int) (pa_cons (pe_un un_neg pe_int) (pa_cons (pe_un un_neg pe_int) pa_nil)))) (pg_name (i:=5) sc_q26.nd rfl (.inl rfl))
   (pss_cons (ps_set (i:=6) sc_q26.nd rfl (.inl rfl) (zbd G_q8 (hr.mono (by omega)) (pv 1)))
  (pss_cons (ps_if (PW.pt (pw_or (pt_cmpR (z38 (by show A.units+3+195 < cLine; omega)) (pv 6) (pe_ix ix_list (pv 2) (pv 5) (fun _ _=>rfl)) (nomark _)) (pw_or1 (pt_cmpR (z38 (by show A.units+3+195 < cLine; omega)) (z13 G_q11 (hr.mono (by omega)) (pv 1)) (pe_ix ix_list (pv 2) (pv 5) (fun _ _=>rfl)) (nomark _))))) (pss_one (ps_ret pe_bl)) pss_nil)
  (pss_one (ps_if (PW.pt (pw_and (pt_cmp (pc_din (by show A.units+3+1 < cLine; omega) (pv 5) (pv 4))) (pw_and1 (pt_cmpR (z38 (by show A.units+3+195 < cLine; omega)) (z1u G_q70 (hr.mono (by omega)) rfl (pa_cons (pv 0) (pa_cons (pv 6) pa_nil))) (pe_dget (by show A.units+3+1 < cLine; omega) (pv 4) (pv 5) (fun _ _=>rfl)) (nomark _))))) (pss_one (ps_ret pe_bl)) pss_nil)))))
  (pss_cons (ps_set (i:=7) sc_q26.nd rfl (.inl rfl) pe_non)
  (pss_cons (L2.ps_try_asK (i:=8) (tb:=fun W=>tDrop (z22 C_Play "back" (z44 K C_Play (c "NoFall")) (WE W) (tVar 1) tNil)) (ts:=fun a cls d=>(tAsg (tVar 8) (gName 7))) (Wout:=fun _ _ _ _=>False) rfl rfl rfl sc_q26.nd rfl rfl ⟨rfl,by decide,Or.inl T.FellError⟩ takes0
   (fun W pn xe tk _=>pss_one (ps_expr (by exact (zbf G_q8 (hr.mono (by omega)) tk (pv 1)))))
   (fun a oe cls d pn hz hf=>by exact (pss_one (ps_set (i:=7) sc_q26.nd rfl (.inl rfl) (pv 8)))))
  (pss_one (ps_ret (pe_and (pe_callB L2.call_isK rfl B.isinstance boot_isinstance (pa_cons (pv 7) (pa_cons (pe_glob (v:=.ref (c "NoFall")) rfl (T.glo "NoFall" (.tail _ (.tail _ (.tail _ (.tail _ (.tail _ (.tail _ (.head _)))))))) rfl) pa_nil))) (pe_one (pe_cmpR (z34 (by show A.units+3+195 < cLine; omega)) (z13 G_q10 (hr.mono (by omega)) (pv 1)) (pe_lst pa_nil) (nomark _))))))))),?_⟩
 have szl:=sizeLine_eq
 have zl:=hz.length
 obtain ⟨ps,kvs,rfl,hpr,hkv⟩:=zcg hws
 refine ⟨_,rfl,qa,ps,kvs,rfl,SqL.of hq,hpr,fun D nD=>?_⟩
 rw [z4k (acc:=[]) (by rw [List.nil_append,hkv.keys]; exact zaq nda),List.nil_append]
 have t1:=SB.new (ps:=[]) nD (.dK kvs)
 have hD1:RkI K (upd H D (.dK kvs)) D as:=⟨kvs,upd_same,hkv.mono fun _ _ q=>⟨q.1,LA.sb q.2 t1⟩⟩
 have hP1:=hP.sb0 t1
 have hv1:=hv.sb0 t1
 have hs1:=t1.keep _ _ hs nmn
 have hz1:=hz.sb t1 Gr.noList_enc
 have DnL:D ∉ [ls,ld,lu]:=fun z=>by
  obtain ⟨v1,e1,_⟩:=hP.st
  obtain ⟨v2,e2,_⟩:=hP.dn
  obtain ⟨v3,e3,_⟩:=hP.un
  simp only [List.mem_cons,nmn,or_false] at z
  rcases z with rfl | rfl | rfl
  ·rw [nD] at e1; cases e1
  ·rw [nD] at e2; cases e2
  ·rw [nD] at e3; cases e3
 generalize upd H D (.dK kvs)=H1 at t1 hD1 hP1 hv1 hs1 hz1
 refine z1y ?_
 refine ⟨_,rfl,sa,zs,rfl,.inl (SqL.of hs1),_,_,rfl,rfl,1,rfl,1,rfl,?_⟩
 refine ⟨((zs.length:Nat):Int)-2,-1,-1,ds.length,rfl,?_,?_⟩
 ·have e:ds.length=(((zs.length:Nat):Int)-2-(-1)).toNat:=by omega
  rw [e]
  exact RgC.neg (by omega) (by omega) (by omega) (by omega)
 refine for_it (walk_rangeC (lo:=((zs.length:Nat):Int)-2) (c:=-1) (n:=ds.length)) (fun i σ G=>SB [ls,ld,lu] H1 G/\∃ (us':List (Fa × Gr)) (o5 o6:Option V),σ=[some bv,some (.ref a),some (.ref sa),some (.ref qa),some (.ref D),o5,o6,none,none]/\Ply K C_Play G bv a ls ld lu (gs.take (ds.length+1-i)) (ds.take (ds.length-i)) us'/\us'.length<=us.length+i)
  ⟨SB.refl,us,none,none,rfl,by rw [show ds.length+1-0=gs.length by omega,List.take_length,show ds.length-0=ds.length by omega,List.take_length]; exact hP1,Nat.le_refl _⟩ (fun _ _ _ _ _=>trivial) (fun i x σ G G' hi h y=>?_) (fun σ G h=>?_)
 ·obtain ⟨s2,us',o5,o6,rfl,ply,ul'⟩:=h
  obtain ⟨rfl,ex⟩:=y
  obtain ⟨m,hm⟩:∃ m:Nat,ds.length=i+1+m:=⟨ds.length-i-1,by omega⟩
  have ex:x=V.int ((m:Nat):Int):=ex.trans (congrArg V.int (by omega))
  subst ex
  obtain ⟨g1,eg1⟩:∃ g,gs[m]?=some g:=⟨_,List.getElem?_eq_getElem (by omega)⟩
  obtain ⟨g2,eg2⟩:∃ g,gs[m+1]?=some g:=⟨_,List.getElem?_eq_getElem (by omega)⟩
  obtain ⟨f0,ef0⟩:∃ f,ds[m]?=some f:=⟨_,List.getElem?_eq_getElem (by omega)⟩
  have e1:gs.take (ds.length+1-i)=gs.take m++[g1]++[g2]:=by
   rw [show ds.length+1-i=m+1+1 by omega,List.take_add_one,List.take_add_one,eg1,eg2]; rfl
  have e2:ds.take (ds.length-i)=ds.take m++[f0]:=by
   rw [show ds.length-i=m+1 by omega,List.take_add_one,ef0]; rfl
  rw [e1,e2] at ply
  obtain ⟨j,hj,hA⟩:=hat g1 (List.mem_of_getElem? eg1)
  have gd:=hA.deep
  obtain ⟨dx,hi0⟩:=ply.ins
  refine ⟨_,rfl,a,dx,_,rfl,hi0,rfl,?_⟩
  refine nilI ?_
  refine ⟨a,ls,ld,lu,bv,_,_,us',rfl,ply,by omega,fun z=>absurd z (by simp),fun _=>⟨gs.take m,g1,g2,ds.take m,f0,rfl,rfl,fun fv G3 s3 ply3 hfv=>?_⟩⟩
  refine z1y ?_
  have s13:=s2.trans s3
  have hs3:=s13.keep _ _ hs1 ns
  have hz3:=hz1.sb s13 Gr.noList_enc
  obtain ⟨zv,ezv,hzv⟩:=hz3.at eg1
  have wd1:Wd g1.enc:=Gr.wd hA.ok (by omega)
  refine ⟨_,rfl,_,rfl,_,rfl,sa,_,_,_,rfl,rfl,SqL.of hs3,atI_nat ezv,?_⟩
  refine ⟨_,_,hfv,hzv,wd1,wd1,_,rfl,?_⟩
  rw [Gr.eqv_enc,decide_eq_true rfl]
  refine iteF ?_
  obtain ⟨dx3,hi3⟩:=ply3.ins
  refine ⟨_,rfl,a,dx3,_,rfl,hi3,rfl,?_⟩
  refine nilI ?_
  refine ⟨a,ls,ld,lu,bv,gs.take m,g1,_,_,rfl,ply3,fun gv hgv=>?_⟩
  refine ⟨_,rfl,_,rfl,sa,_,_,_,rfl,rfl,SqL.of hs3,atI_nat ezv,?_⟩
  refine ⟨_,_,hgv,hzv,wd1,wd1,_,rfl,?_⟩
  rw [Gr.eqv_enc,decide_eq_true rfl]
  refine iteF (z2s ?_)
  have hD3:=hD1.sb s13 DnL
  obtain ⟨o,ho,hlook⟩:=hD3.look m
  have inv:∀ G4,SB [] G3 G4->Ply K C_Play G4 bv a ls ld lu (gs.take (ds.length+1-(i+1))) (ds.take (ds.length-(i+1))) (us'++[(f0,g2)]):=fun G4 s4=>by
   have e3:gs.take (ds.length+1-(i+1))=gs.take m++[g1]:=by
    rw [show ds.length+1-(i+1)=m+1 by omega,List.take_add_one,eg1]; rfl
   rw [e3,show ds.length-(i+1)=m by omega]
   exact ply3.sb0 s4
  have lus:(us'++[(f0,g2)]).length<=us.length+(i+1):=by rw [List.length_append,List.length_singleton]; omega
  refine ⟨_,rfl,_,rfl,D,o,rfl,ho _ SB.refl,?_⟩
  rcases hlook with rfl | ⟨v,l,rfl,hml,hlv⟩
  ·exact ⟨_,rfl,iteF (iteF ⟨s13,_,_,_,rfl,inv _ SB.refl,lus⟩)⟩
  obtain ⟨g',eg',el⟩:=has _ hml
  have eg':gs[m]?=some g':=eg'
  obtain rfl:g1=g':=Option.some.inj (eg1.symm.trans eg')
  have el:l=rk95 b g1:=el
  subst el
  obtain ⟨_,rd,_⟩:=BB.fit (ns:=b.names) (fun n hn=>hn) hA hj
  refine ⟨_,rfl,iteT ⟨_,rfl,_,rfl,?_⟩⟩
  refine nilI ?_
  show z19 _ _ _ _ _ _ _
  have ftp:Ftp H1 C_Play [ls,ld,lu]:=(hP1.ftp).sub (by simp)
  refine BB.rnk hj hA hfv (hv1.sbF s13 ftp) fun x4 G4 s4 hx4=>?_
  refine ⟨_,rfl,_,rfl,D,v,rfl,ho _ s4,?_⟩
  have wdR:Wd (rk95 b g1).enc:=Wd.of (Lad.shaped_enc (by omega))
  refine ⟨_,_,hx4,hlv.sb s4,wdR,wdR,_,rfl,?_⟩
  rw [Lad.eqv_enc,decide_eq_true rfl]
  exact iteF ⟨s13.trans s4.nil,_,_,_,rfl,inv _ s4,lus⟩
 ·obtain ⟨s2,us',o5,o6,rfl,ply,ul'⟩:=h
  rw [show ds.length+1-ds.length=1 by omega,Nat.sub_self,List.take_zero] at ply
  obtain ⟨dx,hi⟩:=ply.ins
  refine ⟨_,rfl,a,dx,_,rfl,hi,rfl,?_⟩
  refine nilI ?_
  refine ⟨a,ls,ld,lu,bv,_,[],us',rfl,ply,by omega,fun _ G3 s3=>?_,fun z=>absurd rfl z⟩
  refine ⟨true,T.exm _ (.head _),fun _ x hx=>?_,fun z=>nomatch z⟩
  refine ⟨_,rfl,?_⟩
  refine ⟨hx,?_⟩
  have t4:=SB.new (ps:=[]) hx (KeepE x (.ref (c "NoFall")) none)
  have hE4:upd G3 x (KeepE x (.ref (c "NoFall")) none) x=some (KeepE x (.ref (c "NoFall")) none):=upd_same
  have ply4:=ply.sb0 (s3.trans t4)
  have s04:=s2.trans (s3.trans t4).nil
  generalize upd G3 x (KeepE x (.ref (c "NoFall")) none)=G4 at t4 hE4 ply4 s04
  refine ⟨_,rfl,_,x,_,_,true,hE4,T.exc _ (.head _),rfl,fun u r=>r,(T.kit _ (.head _) "NoFall" (by decide +kernel)).trans (by rw [decide_eq_true rfl]),?_⟩
  refine ⟨_,rfl,iteT ?_⟩
  obtain ⟨dx4,hi4⟩:=ply4.ins
  refine ⟨_,rfl,a,dx4,_,rfl,hi4,rfl,?_⟩
  refine nilI ?_
  refine ⟨a,ls,ld,lu,bv,_,[],us',rfl,ply4,fun L w5 G5 s5 nL hL hw=>?_⟩
  refine ⟨by show 0<=sizeLine; decide,fun E5 nE5=>?_⟩
  have t6:=SB.new (ps:=[]) nE5 (.lst [])
  refine ⟨_,_,.lst (SqL.of (t6.keep _ _ hL nmn)) (hw.sb t6 z05).dp,.lst (SqL.of upd_same) .nil,zbo [],zbo [],?_⟩
  rw [show PyData.eqv (.list (([]:List Fa).map faE)) (.list [])=true from zh2 [] []]
  exact q _ (t1.nil.trans (s04.trans (s5.trans t6).nil))
abbrev zeg:List Str:=["_law_script","_law_draws_here","_law_names_here","_law_kinds_here","_law_book_here","_law_rules","_law_stood","_law_play","_law_asked_here","_law_turn","_law_places_here","_law_place","_law_kind","_law_rule","_law_said","_law_grove_here","_law_holder","_law_name","_law_spreading","_law_some"]
theorem sc_q59:FnScope zeg ["_law_script"] (defScope z3v):=⟨rfl,rfl,rfl,by decide +kernel,rfl,by decide +kernel,by decide +kernel⟩
theorem zji {C_Book C_Play C_NoKind C_NoPlace C_NoRule C_NoNumber C_TooGreat:Addr} (B:BI mg) (G_q15:Got P w K mg base "_law_draws" ["_law_script","_law_many_here"] (1) (z8l K)) (G_q23:Got P w K mg base "_law_names" ["_law_draws_here","_law_many_here"] (2) (z43 K)) (G_q24:Got P w K mg base "_law_next" ["_law_draws_here"] (1) (z2k)) (G_q19:Got P w K mg base "_law_kinds" ["_law_draws_here","_law_names_here","_law_rounds"] (15) (z7m K)) (G_q13:Got P w K mg base "_law_book" ["_law_kinds_here"] (90) (z72 K C_Book)) (G_q17:Got P w K mg base "_law_grove" ["_law_draws_here","_law_names_here","_law_room","_law_great"] (13) (z0v K 11)) (G_q6:GotI P w K mg base "Play" C_Play ["self","book","grove"] (75) (z6z K C_Play C_Book)) (G_q70:GotX P w K mg base "rank" ["book","grove"] (73) (z19 K C_Book C_NoKind)) (G_q25:Got P w K mg base "_law_places" ["_law_grove_here","_law_ahead"] (70) (z2b K 70)) (G_q43:GotX P w K mg base "fallen" ["book","grove","place","rule","number"] (74) (z1c K C_Book C_NoPlace C_NoRule C_NoNumber C_TooGreat)) (G_q16:Got P w K mg base "_law_fits" ["_law_grove_here"] (71) (z76 K)) (G_q9:z12 P w K mg base C_Play "fall" ["self","place","rule","number"] (76) (z2p K C_Play C_Book C_NoPlace C_NoRule C_NoNumber C_TooGreat)) (G_q12:Got P w K mg base "_law_asked" ["_law_book_here","_law_play","_law_asked_here","_law_many_here"] (76) (z1d K C_Play C_Book)) (G_q20:Got P w K mg base "_law_ladder" ["_law_found"] (70) (z1r K 30)) (G_q26:Got P w K mg base "_law_taken_back" ["_law_book_here","_law_play","_law_stood","_law_asked_here"] (78) (z4s K C_Play C_Book)) (F:Fun K "law" "law" z3v f fd):FnOk P w K mg base CX0 (120) f fd ["_law_script"] (spLaw K):=by
 refine F.ok sc_q59 (fun vs H Q E h=>?_) (fun cdv A outer s H vs Q E hr h=>?_)
 ·obtain ⟨a,ns,rfl,_⟩:=h
  rfl
 obtain ⟨a,ns,rfl,hs,nl,q⟩:=h
 have hun2:=hunT hr
 refine ⟨_,pss_cons (ps_set (i:=1) sc_q59.nd rfl (.inl rfl) (z00 G_q15 (hr.mono (by omega)) rfl (pa_cons (pv 0) (pa_cons pe_int pa_nil))))
  (pss_cons (ps_set (i:=2) sc_q59.nd rfl (.inl rfl) (z00 G_q23 (hr.mono (by omega)) rfl (pa_cons (pv 1) (pa_cons (pe_op op_add pe_int (pe_op op_mod (z00 G_q24 (hr.mono (by omega)) rfl (pa_cons (pv 1) pa_nil)) pe_int)) pa_nil))))
  (pss_cons (ps_set (i:=3) sc_q59.nd rfl (.inl rfl) (z00 G_q19 (hr.mono (by omega)) rfl (pa_cons (pv 1) (pa_cons (pv 2) (pa_cons pe_bl pa_nil)))))
  (pss_cons (ps_set (i:=4) sc_q59.nd rfl (.inl rfl) (z00 G_q13 (hr.mono (by omega)) rfl (pa_cons (pv 3) pa_nil)))
  (pss_cons (ps_set (i:=5) sc_q59.nd rfl (.inl rfl) (pe_callTy (call_dictP rfl) rfl B.dict boot_dict (pa_cons (pe_lc (own:=[("_law_name",17),("_law_spreading",18),("_law_some",19)]) (g:=(gTup K 3 (gCons (gName 17) (gCons (gName 18) (gCons (gName 19) gNil))))) (tt:=tYes) (te:=(tTup (tCons (tVar 17) (tCons (tCB (fun xs H Q=>∃ p ys,xs=[.ref p]/\(SqL K H p ys\/SqT K H p ys)/\Q (.int ys.length) H) (tCons (tVar 19) tNil)) tNil)))) rfl sc_q59.nd (pi_list (pv 3)) (blkOk_by (N:=zeg) (sc:=defScope z3v) (by decide +kernel)) (fun _ _ _ _ _=>(pg_tup rfl (pgs_cons (pg_name (i:=17) sc_q59.nd rfl (.inl rfl)) (pgs_cons (pg_name (i:=18) sc_q59.nd rfl (.inl rfl)) (pgs_cons (pg_name (i:=19) sc_q59.nd rfl (.inl rfl)) pgs_nil))))) (fun _ _ _ _ _=>pts_nil) (fun _ _ _ _ _=>(pe_tup (pa_cons (pv 17) (pa_cons (pe_callB call_len_seq rfl B.len PySem.boot_len (pa_cons (pv 19) pa_nil)) pa_nil))))) pa_nil)))
  (pss_cons (ps_set (i:=6) sc_q59.nd rfl (.inl rfl) (pe_lst (pa_cons (z00 G_q17 (hr.mono (by omega)) rfl (pa_cons (pv 1) (pa_cons (pv 2) (pa_cons (pe_op op_add pe_int (pe_op op_mod (z00 G_q24 (hr.mono (by omega)) rfl (pa_cons (pv 1) pa_nil)) pe_int)) (pa_cons (pe_op op_pow pe_int pe_int) pa_nil))))) pa_nil)))
  (pss_cons (ps_set (i:=7) sc_q59.nd rfl (.inl rfl) (zad G_q6 (hr.mono (by omega)) rfl (pa_cons (pv 4) (pa_cons (pe_ix ix_list (pv 6) pe_int (fun _ _=>rfl)) pa_nil))))
  (pss_cons (ps_set (i:=8) sc_q59.nd rfl (.inl rfl) (pe_lst (pa_cons (pe_tup (pa_cons pe_int (pa_cons (z1u G_q70 (hr.mono (by omega)) rfl (pa_cons (pv 4) (pa_cons (pe_ix ix_list (pv 6) pe_int (fun _ _=>rfl)) pa_nil))) pa_nil))) pa_nil)))
  (pss_cons (ps_for PassesOwn.never rfl (pi_range1 rfl B.range (pa_cons pe_int pa_nil)) (pg_name (i:=9) sc_q59.nd rfl (.inl rfl))
   (pss_cons (ps_set (i:=10) sc_q59.nd rfl (.inl rfl) (z00 G_q25 (hr.mono (by omega)) rfl (pa_cons (pe_ix ix_list (pv 6) (pe_un un_neg pe_int) (fun _ _=>rfl)) (pa_cons (pe_tup pa_nil) pa_nil))))
  (pss_one (ps_if (pt_cmpR (z38 (by show A.units+3+195 < cLine; omega)) (pv 10) (pe_lst pa_nil) (nomark _)) (pss_cons (ps_asg (pe_ix ix_list (pv 10) (pe_op op_mod (z00 G_q24 (hr.mono (by omega)) rfl (pa_cons (pv 1) pa_nil)) (pe_callB call_len_seq rfl B.len PySem.boot_len (pa_cons (pv 10) pa_nil))) (fun _ _=>rfl)) (pg_tup rfl (pgs_cons (pg_name (i:=11) sc_q59.nd rfl (.inl rfl)) (pgs_cons (pg_name (i:=12) sc_q59.nd rfl (.inl rfl)) pgs_nil))))
  (pss_cons (ps_set (i:=13) sc_q59.nd rfl (.inl rfl) (pe_op op_mod (z00 G_q24 (hr.mono (by omega)) rfl (pa_cons (pv 1) pa_nil)) (pe_op op_add (pe_dget (by show A.units+3+1 < cLine; omega) (pv 5) (pv 12) (fun _ _=>rfl)) pe_int)))
  (pss_cons (ps_set (i:=14) sc_q59.nd rfl (.inl rfl) (pe_ix ix_list (pe_lst (pa_cons pe_int (pa_cons pe_int (pa_cons pe_int (pa_cons (z00 G_q24 (hr.mono (by omega)) rfl (pa_cons (pv 1) pa_nil)) pa_nil))))) (pe_op op_mod (z00 G_q24 (hr.mono (by omega)) rfl (pa_cons (pv 1) pa_nil)) pe_int) (fun _ _=>rfl)))
  (pss_cons (ps_asg (z1u G_q43 (hr.mono (by omega)) rfl (pa_cons (pv 4) (pa_cons (pe_ix ix_list (pv 6) (pe_un un_neg pe_int) (fun _ _=>rfl)) (pa_cons (pv 11) (pa_cons (pv 13) (pa_cons (pv 14) pa_nil)))))) (pg_tup rfl (pgs_cons (pg_name (i:=15) sc_q59.nd rfl (.inl rfl)) (pgs_cons (pg_name (i:=16) sc_q59.nd rfl (.inl rfl)) pgs_nil))))
  (pss_one (ps_if (pt_val (z00 G_q16 (hr.mono (by omega)) rfl (pa_cons (pv 15) pa_nil))) (pss_cons (ps_if (pt_cmpR (z38 (by show A.units+3+195 < cLine; omega)) (z79 G_q9 (hr.mono (by omega)) (pv 7) (pa_cons (pv 11) (pa_cons (pv 13) (pa_cons (pv 14) pa_nil)))) (pv 16) (nomark _)) (pss_one (ps_ret pe_bl)) pss_nil)
  (pss_cons (ps_expr (pe_bm PySem.F.plainAttrs_list PySem.F.slot_list_append PySem.F.type_list_append mt_append (pv 6) (pa_cons (pv 15) pa_nil)))
  (pss_one (ps_if (PW.pt (pw_and (pt_cmpR op_eq (pe_op op_mod (z00 G_q24 (hr.mono (by omega)) rfl (pa_cons (pv 1) pa_nil)) pe_int) pe_int (nomark _)) (pw_and1 (pt_not (pt_val (z00 G_q12 (hr.mono (by omega)) rfl (pa_cons (pv 4) (pa_cons (pv 7) (pa_cons (pv 8) (pa_cons (pe_op op_sub (pe_callB call_len_seq rfl B.len PySem.boot_len (pa_cons (pv 6) pa_nil)) pe_int) pa_nil)))))))))) (pss_one (ps_ret pe_bl)) pss_nil)))) pss_nil)))))) pss_nil))))
  (pss_cons (ps_if (PW.pt (pw_or (pt_not (pt_truth (z00 G_q20 (hr.mono (by omega)) rfl (pa_cons (pe_ix ix_tup (pe_ix ix_list (pv 8) pe_int (fun _ _=>rfl)) pe_int (fun _ _=>rfl)) pa_nil)) (by intro _; rfl))) (pw_or1 (pt_not (pt_val (z00 G_q12 (hr.mono (by omega)) rfl (pa_cons (pv 4) (pa_cons (pv 7) (pa_cons (pv 8) (pa_cons (pe_op op_sub (pe_callB call_len_seq rfl B.len PySem.boot_len (pa_cons (pv 6) pa_nil)) pe_int) pa_nil)))))))))) (pss_one (ps_ret pe_bl)) pss_nil)
  (pss_one (ps_ret (z00 G_q26 (hr.mono (by omega)) rfl (pa_cons (pv 4) (pa_cons (pv 7) (pa_cons (pv 6) (pa_cons (pv 8) pa_nil)))))))))))))))),?_⟩
 have szl:=sizeLine_eq
 refine ⟨_,rfl,a,ns,600,rfl,hs,nl,by decide,fun p H1 s1 np hp1=>?_⟩
 refine ⟨_,rfl,_,rfl,p,rfl,hp1,fun r H2 r0 rm s2 hp2=>?_⟩
 refine ⟨_,_,rfl,rfl,(by show (0:Int) < 4; decide),_,_,rfl,rfl,?_⟩
 obtain ⟨m,em,m1,m5⟩:∃ m:Nat,1+r % 4=(m:Int)/\1<=m/\m<=4:=⟨(1+r % 4).toNat,by omega,by omega,by omega⟩
 refine nilI ?_
 show z43 K [.ref p,.int (1+r % 4)] _ _ _
 rw [em]
 refine ⟨p,m,rfl,hp2,by omega,fun nm ks H3 s3 hp3 nnm hnm kl kok knd=>?_⟩
 have nmp:nm ≠ p:=(hp2.ne nnm).symm
 refine ⟨_,rfl,_,rfl,p,nm,ks,false,rfl,hp3,⟨hnm,nmp,by omega,kok,knd,fun z=>by rw [z] at kl; simp at kl; omega⟩,fun kh xs b H5 s5 hp5 nkh hkh hb0 ok h40=>?_⟩
 have b8:=ok.len
 have b1:=ok.pos
 have hb:=hb0.less (bad':=[]) (by simp)
 have hnm5:=s5.keep _ _ hnm (by simpa using nmp)
 have khp:kh ≠ p:=(hp3.ne nkh).symm
 clear hb0 hp3 hnm hp2 hp1 s1 s2 s3 s5
 refine ⟨_,rfl,kh,xs,b,rfl,hkh,hb,ok,fun bk H6 s6 nbk hbk=>?_⟩
 have hp6:=hp5.sb s6
 have hnm6:=s6.keep _ _ hnm5 nmn
 have hkh6:=s6.keep _ _ hkh nmn
 have hb6:=hb.sb s6 NoLst.nil
 clear hnm5 hkh hb s6 hp5
 have pm:ks.Perm b.names:=h40.names.symm
 have ow:=Own40.of5 ok h40 (by omega)
 have ends:=h40.ends ok knd
 have hw:∀ n ∈ b.names,z06 b n ≠ .nil/\(z06 b n).parts<=62/\(z06 b n).deep<=12/\(z06 b n).Ok (2 ^ 330):=fun n hn=>by
  obtain ⟨x,D,hD,hx,h⟩:=ow.bnd
  obtain ⟨h1,h2,h3,h4⟩:=h n hn (ends n hn)
  exact ⟨h1,h2,by omega,h4.mono (z0g hx)⟩
 have hwb:∀ n ∈ b.names,Wb (z06 b n):=fun n hn=>by
  obtain ⟨f1,f2,f3,f4⟩:=hw n hn
  exact ⟨f1,by omega,f3,f4.mono (z0g (by decide))⟩
 have B:B95 b:=⟨ok,ow.own,ends,hwb,NoF.own ok fun n hn=>⟨ends n hn,rfl⟩⟩
 clear hw hwb ow ends
 have xl:=hb6.length
 refine ⟨_,rfl,kh,rfl,⟨_,SqL.of hkh6⟩,fun L nL=>?_⟩
 refine lc_it (walk_list (xs:=xs)) (fun i H7=>SB [L] H6 H7/\∃ ps:List Addr,H7 L=some (.lst (ps.map V.ref))/\Paired (fun p kv=>SqT K H7 p [kV kv.1,kv.2]) ps (zk (Bk.names (b.take i)) (rlV (b.take i)))) ⟨SB.new nL _,[],upd_same,.nil⟩ (fun i H7 hi h7=>(h7.1.drop nL).sqL nmn (SqL.of hkh6)) (fun i x H7 Hq hi h7 y=>?_) (fun H7 h7=>?_)
 ·obtain ⟨s7,ps,hL7,hps⟩:=h7
  obtain ⟨rfl,ey⟩:=y
  have s7':=s7.drop nL
  have hb7:=hb6.sb s7' NoLst.nil
  obtain ⟨k,ek,t,rl,zs,rfl,h1,h2,h3,_⟩:=hb7.get ey
  have zl:=h3.length
  have pl:=hps.length
  have e1:Bk.names (b.take (i+1))=Bk.names (b.take i)++[k.n]:=by rw [List.take_add_one,ek]; simp [Bk.names]
  have e2:rlV (b.take (i+1))=rlV (b.take i)++[V.int ((k.rs.length:Nat):Int)]:=by rw [List.take_add_one,ek]; simp [rlV]
  have ul:(rlV (b.take i)).length=(Bk.names (b.take i)).length:=by rw [rlV,List.length_map,Bk.names,List.length_map]
  have e3:=zk7 ul
  have nl2:(Bk.names (b.take i)).length<=b.length:=by rw [Bk.names,List.length_map,List.length_take]; omega
  refine ⟨t,_,rfl,h1,rfl,_,_,rfl,_,_,rfl,_,_,rfl,rfl,rfl,?_⟩
  refine ⟨_,rfl,_,rfl,rl,zs,rfl,.inl (SqL.of h2),?_⟩
  refine ⟨by show 2<=sizeLine; decide,fun U nU=>?_⟩
  have t8:=SB.new (ps:=[]) nU (.tup [.str k.n,.int ((zs.length:Nat):Int)])
  have hL8:=t8.keep _ _ hL7 nmn
  refine ⟨_,hL8,by rw [List.length_map]; omega,?_⟩
  have t9:=SB.set (ps:=[L]) hL8 (by simp) (.lst (ps.map V.ref++[.ref U]))
  have UL:U ≠ L:=fun z=>by rw [z,hL7] at nU; cases nU
  refine ⟨s7.trans (t8.nil.trans t9),ps++[U],by rw [upd_same,List.map_append]; rfl,?_⟩
  rw [e1,e2]
  unfold zk at hps ⊢
  rw [List.zipWith_append (by omega)]
  refine z7v (hps.mono fun _ _ z=>(t8.nil.trans t9).sqT z) (.cons ?_ .nil)
  rw [<- zl]
  exact SqT.of ((t9.keep _ _ upd_same (by simpa using UL)))
 obtain ⟨s7,ps,hL7,hps⟩:=h7
 rw [xl,List.take_length] at hps
 refine ⟨L,ps,_,rfl,SqL.of hL7,hps,fun R nR=>?_⟩
 have rul:(rlV b).length=b.names.length:=by rw [rlV,List.length_map,Bk.names,List.length_map]
 rw [z4k (acc:=[]) (by rw [List.nil_append,z5b rul]; exact List.Pairwise.map _ (fun a b h z=>h (Sum.inr.inj z)) ok.nd),List.nil_append]
 have t8:=SB.new (ps:=[]) nR (.dK (zk b.names (rlV b)))
 have s68:=(s7.drop nL).trans t8
 have hR8:RulA (upd H7 R (.dK (zk b.names (rlV b)))) R b:=upd_same
 have hp8:=hp6.sb s68
 have hnm8:=s68.keep _ _ hnm6 nmn
 have hbk8:=hbk.sb0 s68
 clear s7 hL7 hps t8
 generalize upd H7 R (.dK (zk b.names (rlV b)))=H8 at hR8 hp8 hnm8 hbk8 s68
 clear s68 hp6 hnm6 hkh6 hbk hb6
 refine z1y ?_
 have p9:(10:Int) ^ (9:Int).toNat=10 ^ 9:=rfl
 have hRp:∀ {H:Hp},RulA H R b->Dr H p->R ≠ p:=fun h1 h2 z=>by
  obtain ⟨_,h2,_⟩:=h2
  rw [RulA,z,h2] at h1; cases h1
 refine ⟨_,rfl,_,rfl,_,rfl,p,rfl,hp8,fun r1 H9 r10 r1m s9 hp9=>?_⟩
 refine ⟨_,_,rfl,rfl,(by show (0:Int) < 6; decide),_,_,rfl,rfl,_,_,rfl,rfl,⟨by decide,by decide,by decide⟩,?_⟩
 obtain ⟨rm1,er1,rl1⟩:∃ rm1:Nat,1+r1 % 6=(rm1:Int)/\rm1<=6:=⟨(1+r1 % 6).toNat,by omega,by omega⟩
 refine nilI ?_
 show z0v K 11 [.ref p,.ref nm,.int (1+r1 % 6),.int (10 ^ (9:Int).toNat)] _ _ _
 rw [er1,p9]
 have hnm9:=s9.keep _ _ hnm8 (by simpa using nmp)
 refine ⟨p,nm,ks,rm1,10 ^ 9,rfl,hp9,⟨hnm9,nmp,by omega,kok⟩,by omega,by omega,by decide,by decide,fun gv g H10 s10 hp10 hg10 og pg dg ng=>?_⟩
 have s810:=s9.trans s10
 have hR10:RulA H10 R b:=s810.keep _ _ hR8 (by simpa using hRp hR8 hp8)
 have hbk10:=hbk8.sb s810 hp8.lsts
 clear hnm9 hnm8 hp9 hp8 hR8 hbk8 s9 s10 s810
 have A0:At48 b 0 g:=⟨og.mono (by
  have:(rm1:Int)<=6:=by omega
  have h1:(rm1:Int)*10 ^ 9<=6*10 ^ 9:=Int.mul_le_mul_of_nonneg_right this (by decide)
  have h2:(6:Int)*10 ^ 9+1<=2 ^ 132*(((0:Nat):Int)+1):=by decide
  omega),by omega,by omega,fun x hx=>pm.mem_iff.mp (ng x hx)⟩
 refine ⟨by show 1<=sizeLine; decide,fun S nS=>?_⟩
 have t11:=SB.new (ps:=[]) nS (.lst [gv])
 have hS11:upd H10 S (.lst [gv]) S=some (.lst [gv]):=upd_same
 have Sp:p ≠ S:=hp10.ne nS
 have hp11:=hp10.sb t11
 have hR11:=t11.keep _ _ hR10 nmn
 have hbk11:=hbk10.sb0 t11
 have hg11:=hg10.sb t11
 generalize upd H10 S (.lst [gv])=H11 at t11 hS11 hp11 hR11 hbk11 hg11
 clear t11 hp10 hR10 hbk10 hg10
 refine z1y ?_
 refine ⟨_,rfl,_,rfl,S,_,_,_,rfl,rfl,SqL.of hS11,atI_nat (j:=0) rfl,fun y dx ny ndx ne=>?_⟩
 have t1:=SB.new (ps:=[]) ndx (.own y)
 have ny1:upd H11 dx (.own y) y=none:=by rw [upd_ne ne.symm]; exact ny
 have t2:=SB.new (ps:=[]) ny1 (.ins C_Play dx [])
 have s12:=t1.trans t2
 refine ⟨y,dx,.ref bk,gv,b,g,rfl,upd_same,hbk11.sb0 s12,by omega,hg11.sb s12,by omega,by omega,A0.named,fun ls ld lu G1 s1 n1 n2 n3 ply0=>⟨rfl,?_⟩⟩
 have u1:SB [] H11 G1:=((s12.nil (ps:=[y])).trans s1).drop ny
 have k1:=s12.dom _ n1
 have k2:=s12.dom _ n2
 have k3:=s12.dom _ n3
 have old:∀ {x:Addr} {z:HO},H11 x=some z->∀ {w:Addr},H11 w=none->x ≠ w:=fun h w hw z=>by rw [z,hw] at h; cases h
 have hg1:=hg11.sb u1
 have hbk1:=hbk11.sb0 u1
 have hS1:=u1.keep _ _ hS11 nmn
 refine z90 ?_
 refine ⟨_,rfl,_,rfl,S,_,_,_,rfl,rfl,SqL.of hS1,atI_nat (j:=0) rfl,?_⟩
 refine nilI ?_
 show z19 _ _ _ _ _ _ _
 refine B.rnk (Nat.zero_le _) A0 hg1 hbk1 fun x H12 s12' hx=>?_
 refine ⟨by show 2<=sizeLine; decide,fun U nU=>?_⟩
 have t3:=SB.new (ps:=[]) nU (.tup [.int 0,x])
 have hU3:upd H12 U (.tup [.int 0,x]) U=some (.tup [.int ((0:Nat):Int),x]):=upd_same
 have s13:=s12'.trans t3
 have hx3:=hx.sb t3
 generalize upd H12 U (.tup [.int 0,x])=H13 at t3 hU3 s13 hx3
 refine ⟨by show 1<=sizeLine; decide,fun Q nQ=>?_⟩
 have t4:=SB.new (ps:=[]) nQ (.lst [.ref U])
 have s14:=s13.trans t4
 have u14:=u1.trans s14
 have nQ11:H11 Q=none:=(u1.trans s13).dom _ nQ
 have nQ1:G1 Q=none:=s13.dom _ nQ
 have oldQ:∀ {x:Addr} {z:HO},G1 x=some z->x ≠ Q:=fun h z=>by rw [z,nQ1] at h; cases h
 obtain ⟨v1,e1,_⟩:=ply0.st
 obtain ⟨v2,e2,_⟩:=ply0.dn
 obtain ⟨v3,e3,_⟩:=ply0.un
 have hx4:=hx3.sb t4
 have I0:In95 K C_Play C_Book (upd H13 Q (.lst [.ref U])) p R S Q y (.ref bk) b 0 ls ld lu [] g [] [] 0 (rk95 b g):=by
  exact {
   dr:=hp11.sb u14
   rul:=u14.keep _ _ hR11 nmn
   bk:=hbk11.sb0 u14
   ply:=ply0.sb0 s14
   st:=⟨[gv],s14.keep _ _ hS1 nmn,.cons (hg1.sb s14) .nil⟩
   ask:=⟨[.ref U],upd_same,.cons (.tup (SqT.of (t4.keep _ _ hU3 nmn)) (.cons (.int _) (.cons hx4 .nil))) .nil⟩
   dl:=rfl
   gl:=Nat.le_refl _
   al:=Nat.le_refl _
   ats:=fun h hh=>by rw [List.mem_singleton.mp hh]; exact ⟨0,Nat.le_refl _,A0⟩
   gp:=by omega
   gd:=by omega
   nd:=by simp
   kl:=fun x hx=>by rw [List.mem_singleton.mp hx]; exact Nat.le_refl _
   own:=fun x hx=>by rw [List.mem_singleton.mp hx]; exact ⟨g,rfl,rfl⟩
   last:=.inl ⟨rfl,rfl⟩
   sep:=by
    simp only [List.nodup_cons,List.mem_cons,nmn,or_false,not_or,List.nodup_nil,and_true,not_false_eq_true]
    exact ⟨⟨Sp,hp11.ne nQ11,hp11.ne k1,hp11.ne k2,hp11.ne k3⟩,⟨old hS11 nQ11,old hS11 k1,old hS11 k2,old hS11 k3⟩,⟨(oldQ e1).symm,(oldQ e2).symm,(oldQ e3).symm⟩,⟨ply0.n1,ply0.n2⟩,ply0.n3⟩ }
 generalize upd H13 Q (.lst [.ref U])=H14 at I0
 clear hx4 t4 s14 u14 hx3 s13 t3 hx s12' hg1 hbk1 hS1 u1 s1 s12 t1 t2 ply0 hg11 hbk11 hR11 hp11 hS11 e1 e2 e3 hU3 oldQ old hRp k1 k2 k3 n1 n2 n3
 refine z1y ?_
 refine ⟨48,rfl,by decide,by decide,?_⟩
 refine for_it (walk_range (lo:=0) (n:=48)) (fun j T G=>∃ (ls ld lu:Addr) (gs:List Gr) (g:Gr) (ds:List Fa) (as:List (Nat × Lad)) (k0:Nat) (l0:Lad) (o9 o10 o11 o12 o13 o14 o15 o16:Option V),T=[some (.ref a),some (.ref p),some (.ref nm),some (.ref kh),some (.ref bk),some (.ref R),some (.ref S),some (.ref y),some (.ref Q),o9,o10,o11,o12,o13,o14,o15,o16,none,none,none]/\In95 K C_Play C_Book G p R S Q y (.ref bk) b j ls ld lu gs g ds as k0 l0)
  ⟨_,_,_,_,_,_,_,_,_,none,none,none,none,none,none,none,none,rfl,I0⟩ (fun _ _ _ _ _=>trivial) (fun j z T Hq G hj h yy=>?_) (fun T G h=>?_)
 ·obtain ⟨ls,ld,lu,gs,g,ds,as,k0,l0,o9,o10,o11,o12,o13,o14,o15,o16,rfl,I⟩:=h
  obtain ⟨rfl,rfl⟩:=yy
  refine z90 ?_
  have pdr:=I.dr
  obtain ⟨zs,hS,hz⟩:=I.st
  obtain ⟨zs,u,rfl,hz0,hu⟩:=hz.last
  obtain ⟨ij,hij,A⟩:=I.ats g (mar _ (List.mem_singleton.mpr rfl))
  have gp:=I.gp
  have gd:=I.gd
  have glj:=I.gl
  have dll:=I.dl
  have hpl:=g.len_parts
  have hu:GA K G u g:=hu
  refine ⟨_,rfl,1,rfl,S,_,-1,_,rfl,rfl,SqL.of hS,z2c,?_⟩
  refine ⟨by show 0<=sizeLine; decide,fun E0 nE0=>?_⟩
  have t3:=SB.new (ps:=[]) nE0 (.tup [])
  have hE3:SqT K (upd G E0 (.tup [])) E0 []:=SqT.of upd_same
  have I3:=I.sb t3
  have hu3:=hu.sb t3
  have hS3:=t3.keep _ _ hS nmn
  generalize upd G E0 (.tup [])=G3 at t3 hE3 I3 hu3 hS3
  refine ⟨u,.ref E0,g,[],rfl,hu3,z27 (p:=[]) hE3,by omega,by show g.deep+0<=63; omega,by omega,⟨_,A.ok⟩,fun BL bs G4 s4 nBL hBL4 hbb=>?_⟩
  have ebk:(g.bk 0).map (fun x=>(([]:Pl)++x.1,x.2))=g.bk 0:=by simp
  rw [ebk] at hbb
  have ul:=hbb.length
  have bkl:=g.bk_len 0
  have I4:=I3.sb s4
  have BLp:BL ≠ p:=(I3.dr.ne nBL).symm
  have bko:∀ x ∈ g.bk 0,z02 x.2:=fun x hx=>ok.names _ (Gr.bare_named A.named (Gr.bk_bare _ (Nat.le_refl _) hx))
  refine z1y ?_
  refine ⟨_,rfl,by show 0<=sizeLine; decide,fun Z nZ=>?_⟩
  have t5:=SB.new (ps:=[]) nZ (.lst [])
  refine ⟨.list ((g.bk 0).map bkE),.list [],Dp.lst (SqL.of (t5.keep _ _ hBL4 nmn)) (hbb.sb t5 z0k).dp,Dp.lst (SqL.of upd_same) .nil,Wd.of (z9z bko),Wd.of (by decide +kernel),?_⟩
  rw [zcv]
  have I5:=I4.sb t5
  have hu5:=(hu3.sb s4).sb t5
  have hS5:=(s4.trans t5).keep _ _ hS3 nmn
  have hBL5:=t5.keep _ _ hBL4 nmn
  have hbb5:=hbb.sb t5 z0k
  generalize upd G4 Z (.lst [])=G5 at t5 I5 hu5 hS5 hBL5 hbb5
  clear t3 hE3 I3 hu3 hS3 s4 I4 hBL4 hbb t5 nZ nBL nE0 I hu hS
  refine ⟨_,rfl,?_⟩
  by_cases hbn:g.bk 0=[]
  ·rw [decide_eq_true hbn]
   exact iteF ⟨_,_,_,_,_,_,_,_,_,_,_,_,_,_,_,_,_,rfl,I5.up⟩
  rw [decide_eq_false hbn]
  refine iteT ?_
  refine ⟨_,rfl,_,rfl,p,rfl,I5.dr,fun r8 G8 r80 r8m s8 hp8=>?_⟩
  have I8:=I5.draw s8 hp8
  have hBL8:=s8.keep _ _ hBL5 (by simpa using BLp)
  have bn0:0 < (g.bk 0).length:=List.length_pos_iff.mpr hbn
  refine ⟨_,rfl,BL,bs,rfl,.inl (SqL.of hBL8),_,_,rfl,rfl,(by show (0:Int) < ((bs.length:Nat):Int); omega),?_⟩
  obtain ⟨at0,eat,atl⟩:∃ at0:Nat,r8 % ((bs.length:Nat):Int)=(at0:Int)/\at0 < bs.length:=by
   have h1:=Int.emod_nonneg r8 (show ((bs.length:Nat):Int) ≠ 0 by omega)
   have h2:=Int.emod_lt_of_pos r8 (show (0:Int) < ((bs.length:Nat):Int) by omega)
   exact ⟨(r8 % ((bs.length:Nat):Int)).toNat,by omega,by omega⟩
  dsimp only
  rw [eat]
  obtain ⟨v8,hv8⟩:∃ v8,bs[at0]?=some v8:=⟨_,List.getElem?_eq_getElem atl⟩
  obtain ⟨xx,exx,hxx⟩:=(hbb5.sb s8 z0k).get hv8
  have hbare:=Gr.bk_bare _ (Nat.le_refl _) (List.mem_of_getElem? exx)
  have bpl:=Gr.bare_len hbare
  cases (hxx:Dp K G8 v8 (.tuple [z0d xx.1,.str xx.2])) with
  | @tup ad us' _ hs' hda =>
  cases hda with
  | cons g1 hda =>
  cases hda with
  | cons g2 hda =>
  cases hda
  cases g2
  obtain ⟨pa,rfl,hpa⟩:=z29 g1
  refine ⟨BL,bs,_,_,rfl,rfl,SqL.of hBL8,atI_nat hv8,?_⟩
  refine ⟨ad,_,rfl,hs',rfl,_,_,rfl,_,_,rfl,rfl,?_⟩
  have kn:=Gr.bare_named A.named hbare
  obtain ⟨kd,eg⟩:=Bk.get_of kn
  obtain ⟨km,ekn⟩:=Bk.get_some eg
  have k4:=(ok.kd kd km).2.1
  -- the rule
  refine ⟨_,rfl,p,rfl,I8.dr,fun r9 G9 r90 r9m s9 hp9=>?_⟩
  have I9:=I8.draw s9 hp9
  have hget:=I9.rul.val ok.nd km
  rw [ekn] at hget
  refine ⟨_,rfl,_,rfl,R,_,rfl,hget,_,_,rfl,rfl,_,_,rfl,rfl,(by show (0:Int) < ((kd.rs.length:Nat):Int)+1; omega),?_⟩
  obtain ⟨ri,eri,ril⟩:∃ ri:Nat,r9 % (((kd.rs.length:Nat):Int)+1)=(ri:Int)/\ri < kd.rs.length+1:=by
   have h1:=Int.emod_nonneg r9 (show ((kd.rs.length:Nat):Int)+1 ≠ 0 by omega)
   have h2:=Int.emod_lt_of_pos r9 (show (0:Int) < ((kd.rs.length:Nat):Int)+1 by omega)
   exact ⟨(r9 % (((kd.rs.length:Nat):Int)+1)).toNat,by omega,by omega⟩
  obtain ⟨ru,eru⟩:∃ ru,(noR::kd.rs)[ri]?=some ru:=⟨_,List.getElem?_eq_getElem (by rw [List.length_cons]; omega)⟩
  have rum:=List.mem_of_getElem? eru
  have rfs:RuOk ru/\Gr.Named b.names ru.1/\Gr.Named b.names ru.2:=by
   rcases List.mem_cons.mp rum with z | z
   ·rw [z]; exact Gr.noR_ok
   ·exact ok.named km z
  dsimp only
  rw [eri]
  refine z90 ?_
  -- the number
  refine ⟨_,rfl,p,rfl,I9.dr,fun r10 G10 r100 r10m s10 hp10=>?_⟩
  have I10:=I9.draw s10 hp10
  refine ⟨by show 4<=sizeLine; decide,fun M nM=>?_⟩
  have Mp:M ≠ p:=(hp10.ne nM).symm
  have t11:=SB.new (ps:=[]) nM (.lst [.int 0,.int 1,.int 2,.int r10])
  have hM11:upd G10 M (.lst [.int 0,.int 1,.int 2,.int r10]) M=some (.lst [.int 0,.int 1,.int 2,.int r10]):=upd_same
  have I11:=I10.sb t11
  generalize upd G10 M (.lst [.int 0,.int 1,.int 2,.int r10])=G11 at t11 hM11 I11
  refine ⟨_,rfl,p,rfl,I11.dr,fun r12 G12 r120 r12m s12 hp12=>?_⟩
  have I12:=I11.draw s12 hp12
  refine ⟨_,_,rfl,rfl,(by show (0:Int) < 4; decide),?_⟩
  obtain ⟨n,en,n0,nb⟩:∃ n:Int,atI [V.int 0,V.int 1,V.int 2,V.int r10] (r12 % 4)=some (.int n)/\0<=n/\n < 10 ^ 30:=by
   have big:(10:Int) < 10 ^ 30:=by decide
   have big2:(2147483629:Int) < 10 ^ 30:=by decide
   rcases (by omega:r12 % 4=0\/r12 % 4=1\/r12 % 4=2\/r12 % 4=3) with e | e | e | e
   ·rw [e]; exact ⟨0,rfl,by omega,by omega⟩
   ·rw [e]; exact ⟨1,rfl,by omega,by omega⟩
   ·rw [e]; exact ⟨2,rfl,by omega,by omega⟩
   ·rw [e]; exact ⟨r10,rfl,by omega,by omega⟩
  refine ⟨M,_,_,_,rfl,rfl,SqL.of (s12.keep _ _ hM11 (by simpa using Mp)),en,?_⟩
  refine z90 ?_
  have s812:=((s9.trans s10).trans t11.nil).trans s12
  have s512:=s8.trans s812
  have hu12:=hu5.sb s512
  have hpa12:=s812.sqT hpa
  have Sp12:=I12.sep
  have hS12:G12 S=some (.lst (zs++[u])):=s512.keep _ _ hS5 (by
   simp only [List.nodup_cons,List.mem_cons,not_or] at Sp12
   simpa using fun z=>Sp12.1.1 z.symm)
  have F:FlAt b g (xx.1,ri,n) xx.2 kd ru:=⟨hbare,eg,eru,n0,Int.lt_trans nb (by decide)⟩
  have st:Std b 1 g:=⟨A.ok.mono (by
   have h1:(2:Int) ^ 132*((ij:Int)+1)<=2 ^ 132*61:=Int.mul_le_mul_of_nonneg_left (by omega) (by decide)
   exact Int.le_trans h1 (by decide)),by omega,by omega,A.named⟩
  have efl:fl b g (xx.1,ri,n)=Gr.stk b n (Gr.grw ru n) xx.1 g:=F.eq
  have A1:At48 b (ij+1) (fl b g (xx.1,ri,n)).1:=by rw [efl]; exact A.nextX gd (by omega) n0 nb rfs hbare
  have inb:z0z (fl b g (xx.1,ri,n)).1:=⟨by have:=A1.parts; omega,by have:=A1.deep; omega⟩
  have lt1:(rk95 b (fl b g (xx.1,ri,n)).1).lt (rk95 b g)=true:=by rw [efl]; exact Gr.stk_less0 B.goods eg rum n0 A.ok A.named hbare
  generalize efx:fl b g (xx.1,ri,n)=fx at A1 inb lt1
  refine ⟨_,rfl,_,rfl,1,rfl,S,_,-1,_,rfl,rfl,SqL.of hS12,z2c,_,rfl,_,rfl,_,rfl,?_⟩
  refine nilI ?_
  show z1c _ _ _ _ _ _ [V.ref bk,u,.ref pa,.int (ri:Int),.int n] _ _ _
  refine zgu (f:=(xx.1,ri,n)) I12.bk ok hu12 st hpa12 F (fun _ t13 G13 s13 nt hgp=>?_) (fun hout=>absurd (efx ▸ inb) hout)
  rw [efx] at hgp
  have I13:=I12.sb s13
  have hpa13:=s13.sqT hpa12
  obtain ⟨t',u',a',et,ht,hu',ha'⟩:=zde hgp
  cases et
  refine ⟨t13,_,rfl,ht,rfl,_,_,rfl,_,_,rfl,rfl,?_⟩
  have ad1:=A1.deep
  have ap1:=A1.parts
  refine ⟨_,rfl,u',fx.1,rfl,hu',by omega,by omega,fun bb G14 s14 hbb=>?_⟩
  have I14:=I13.sb s14
  cases bb with
  | false=>exact ⟨_,rfl,iteF (z2s ⟨_,_,_,_,_,_,_,_,_,_,_,_,_,_,_,_,_,rfl,I14.up⟩)⟩
  | true =>
  obtain ⟨f40,f12⟩:=hbb rfl
  refine ⟨_,rfl,iteT ?_⟩
  have hpa14:=s14.sqT hpa13
  have hu14:=GA.sb hu' s14
  have ha14:=s14.sqT ha'
  obtain ⟨dx,hi0⟩:=I14.ply.ins
  refine ⟨_,rfl,y,dx,_,rfl,hi0,rfl,_,rfl,_,rfl,_,rfl,?_⟩
  refine nilI ?_
  show z2p _ _ _ _ _ _ _ [V.ref y,.ref pa,.int (ri:Int),.int n] _ _ _
  refine zbt (f:=(xx.1,ri,n)) I14.ply (by omega) (by omega) I14.bk ok st hpa14 F (fun _ lu' pv G15 s15 nlu ply15 hpv=>?_) (fun hout=>absurd (efx ▸ inb) hout)
  rw [efx] at ply15 hpv
  have wdp:Wd (z0d fx.2):=Wd.of (zbp (by simp [z0d,plS,z7h]) (by rw [z7j]; decide))
  refine ⟨_,rfl,_,_,hpv,z27 (s15.sqT ha14),wdp,wdp,?_⟩
  rw [show PyData.eqv (z0d fx.2) (z0d fx.2)=true by show PyData.eqv (.tuple _) (.tuple _)=true; rw [PyData.eqv,z85,decide_eq_true rfl]]
  refine ⟨_,rfl,iteF (z2s ?_)⟩
  have hj48:j < 48:=hj
  obtain ⟨zs2,hS15,zl2,I16⟩:=I14.fall s15 nlu ply15 (GA.sb hu14 s15) (by have:=A1; exact (At48.monoJ this (by omega))) f40 f12 lt1
  refine ⟨_,rfl,.inl ⟨rfl,_,SqL.of hS15⟩,_,rfl,S,_,_,rfl,rfl,hS15,by omega,?_⟩
  generalize upd G15 S _=G16 at I16
  refine ⟨_,rfl,p,rfl,I16.dr,fun r17 G17 r170 r17m s17 hp17=>?_⟩
  have I17:=I16.draw s17 hp17
  refine ⟨_,_,rfl,rfl,(by show (0:Int) < 3; decide),rfl,_,rfl,?_⟩
  by_cases h1:V.int (r17 % 3)=V.int 1
  case neg =>
   rw [decide_eq_false h1]
   exact iteF (iteF (z2s ⟨_,_,_,_,_,_,_,_,_,_,_,_,_,_,_,_,_,rfl,I17⟩))
  rw [decide_eq_true h1]
  refine iteT ?_
  obtain ⟨zs3,hS17,hz17⟩:=I17.st
  have zl3:=hz17.length
  rw [List.length_append,List.length_singleton] at zl3
  refine ⟨_,rfl,_,rfl,_,rfl,_,rfl,S,zs3,rfl,.inl (SqL.of hS17),_,_,rfl,rfl,?_⟩
  refine nilI ?_
  show z1d _ _ _ [V.ref bk,.ref y,.ref Q,.int (((zs3.length:Nat):Int)-1)] _ _ _
  rw [show ((zs3.length:Nat):Int)-1=(((gs++[g]).length:Nat):Int) by omega]
  refine I17.askQ B (by omega) fun as' k1 l1 G18 I18=>?_
  refine ⟨_,rfl,iteF (z2s ⟨_,_,_,_,_,_,_,_,_,_,_,_,_,_,_,_,_,rfl,I18⟩)⟩
 obtain ⟨ls,ld,lu,gs,g,ds,as,k0,l0,o9,o10,o11,o12,o13,o14,o15,o16,rfl,I⟩:=h
 obtain ⟨ws,hQ,hw⟩:=I.ask
 obtain ⟨zs,hS,hz⟩:=I.st
 have zl:=hz.length
 rw [List.length_append,List.length_singleton] at zl
 obtain ⟨e0,r0,e1⟩:∃ e0 r0,as++[(k0,l0)]=e0::r0:=by
  cases as with
  | nil=>exact ⟨_,_,rfl⟩
  | cons x r=>exact ⟨_,_,rfl⟩
 obtain ⟨w0,wr,rfl,hw0⟩:∃ w0 wr,ws=w0::wr/\Dp K G w0 (aE e0):=by
  rw [e1] at hw
  cases hw with
  | cons h1 h2=>exact ⟨_,_,rfl,h1⟩
 obtain ⟨T0,lx,rfl,hT,hlx⟩:∃ T lx,w0=.ref T/\SqT K G T [.int (e0.1:Nat),lx]/\LA K G lx e0.2:=by
  cases (hw0:Dp K G w0 (.tuple [.int (e0.1:Nat),e0.2.enc])) with
  | tup hT hall =>
  cases hall with
  | cons h1 hall =>
  cases hall with
  | cons h2 hall =>
  cases hall
  cases h1
  exact ⟨_,_,rfl,hT,h2⟩
 obtain ⟨x0,hx0,ex0⟩:=I.own e0 (by rw [e1]; simp)
 obtain ⟨i0,hi0,A2⟩:=I.ats x0 (List.mem_of_getElem? hx0)
 obtain ⟨_,d2,k2⟩:=B.fit (ns:=b.names) (fun n hn=>hn) A2 (by omega)
 rw [<- ex0] at d2 k2
 refine ⟨_,rfl,Q,_,_,_,rfl,rfl,SqL.of hQ,atI_nat (j:=0) rfl,T0,_,_,_,rfl,rfl,hT,atI_nat (j:=1) rfl,?_⟩
 refine nilI ?_
 refine ⟨lx,e0.2,_,rfl,hlx,k2,by omega,by omega,fun G1 s1=>?_⟩
 have I1:=I.sb s1
 refine ⟨_,rfl,iteF ?_⟩
 refine ⟨_,rfl,_,rfl,_,rfl,_,rfl,S,zs,rfl,.inl (SqL.of (s1.keep _ _ hS nmn)),_,_,rfl,rfl,?_⟩
 refine nilI ?_
 show z1d _ _ _ [V.ref bk,.ref y,.ref Q,.int (((zs.length:Nat):Int)-1)] _ _ _
 rw [show ((zs.length:Nat):Int)-1=((gs.length:Nat):Int) by omega]
 refine I1.askQ B (by omega) fun as' k1 l1 G2 I2=>?_
 refine ⟨_,rfl,iteF (z2s ?_)⟩
 obtain ⟨ws2,hQ2,hw2⟩:=I2.ask
 obtain ⟨zs2,hS2,hz2⟩:=I2.st
 have sp:=I2.sep
 have al2:=I2.al
 have kl2:=I2.kl (k1,l1) (by simp)
 have gl2:=I2.gl
 have dl2:=I2.dl
 have la2:=I2.last
 simp only [List.nodup_cons,List.mem_cons,nmn,or_false,not_or,List.nodup_nil,and_true,not_false_eq_true] at sp
 obtain ⟨⟨p1,p2,p3,p4,p5⟩,⟨r1,r2,r3,r4⟩,⟨t1,t2,t3⟩,⟨u1,u2⟩,u3⟩:=sp
 refine ⟨_,rfl,_,rfl,_,rfl,_,rfl,?_⟩
 refine nilI ?_
 refine ⟨y,ls,ld,lu,Q,S,.ref bk,b,gs++[g],ds,[],ws2,zs2,as'++[(k1,l1)],rfl,I2.ply,⟨I2.bk,B⟩,by rw [List.length_append,List.length_singleton]; omega,by omega,by simp,fun h hh=>?_,⟨hS2,hz2⟩,⟨hQ2,hw2,?_,I2.nd,I2.own⟩,⟨by simp [r2,r3,r4],by simp [t1,t2,t3]⟩,fun G3 s3=>?_⟩
 ·obtain ⟨i,h1,h2⟩:=I2.ats h hh; exact ⟨i,by omega,h2⟩
 ·rw [List.length_append,List.length_singleton]
  rcases la2 with ⟨z,_⟩ | ⟨z,_⟩ <;> omega
 ·exact q _
end
theorem facts {P:Program} {w:World} {K:PySem.W.Frag} {h:Heap} {mg:Str->Option Value} {f:Addr} (X:K.In h) (G:h.Ns mainGlobals mg) (hfa:mg ("law":Str)=some (.ref f)) (c:He.SaysD fa fn K) (cx:exOk K=true) :
  ∃ fd:FuncData,(∀ (s:Shared) (v:Value),BindsTo s fd ⟨[v],[]⟩ [("_law_script",v)])/\∀ base:Heap,K.In base->base.Ns mainGlobals mg->FnOk P w K mg base CX0 120 f fd ["_law_script"] (spLaw K):=by
 obtain ⟨fd_q55,D_q55⟩:=c.def_ 0 (d:=zfu) rfl
 have F_q55:Fun K "is_whole" "is_whole" z62 _ fd_q55:=He5.fun_of D_q55
 have m_q55:=He.glo_ok X G (c.fact 0 (f:=.glo "is_whole") rfl)
 have b_q55:=F_q55.binds (ps:=["thing"]) fun _ _ _ _ _ _ us hl=>match us,hl with | [_],_=>rfl
 obtain ⟨fd_q49,D_q49⟩:=c.def_ 1 (d:=zea) rfl
 have F_q49:Fun K "is_many" "is_many" z6n _ fd_q49:=He5.fun_of D_q49
 have m_q49:=He.glo_ok X G (c.fact 1 (f:=.glo "is_many") rfl)
 have b_q49:=F_q49.binds (ps:=["thing"]) fun _ _ _ _ _ _ us hl=>match us,hl with | [_],_=>rfl
 obtain ⟨fd_q50,D_q50⟩:=c.def_ 2 (d:=zfm) rfl
 have F_q50:Fun K "is_name" "is_name" z5v _ fd_q50:=He5.fun_of D_q50
 have m_q50:=He.glo_ok X G (c.fact 2 (f:=.glo "is_name") rfl)
 have b_q50:=F_q50.binds (ps:=["thing"]) fun _ _ _ _ _ _ us hl=>match us,hl with | [_],_=>rfl
 obtain ⟨fd_q51,D_q51⟩:=c.def_ 3 (d:=zfn) rfl
 have F_q51:Fun K "is_rising" "is_rising" z2z _ fd_q51:=He5.fun_of D_q51
 have m_q51:=He.glo_ok X G (c.fact 3 (f:=.glo "is_rising") rfl)
 have b_q51:=F_q51.binds (ps:=["things"]) fun _ _ _ _ _ _ us hl=>match us,hl with | [_],_=>rfl
 obtain ⟨fd_q56,D_q56⟩:=c.def_ 4 (d:=zdv) rfl
 have F_q56:Fun K "joined" "joined" z2v _ fd_q56:=He5.fun_of D_q56
 have m_q56:=He.glo_ok X G (c.fact 4 (f:=.glo "joined") rfl)
 have b_q56:=F_q56.binds (ps:=["pairs"]) fun _ _ _ _ _ _ us hl=>match us,hl with | [_],_=>rfl
 obtain ⟨fd_q62,D_q62⟩:=c.def_ 5 (d:=zep) rfl
 have F_q62:Fun K "many_at" "many_at" z46 _ fd_q62:=He5.fun_of D_q62
 have m_q62:=He.glo_ok X G (c.fact 5 (f:=.glo "many_at") rfl)
 have b_q62:=F_q62.binds (ps:=["pairs","thing"]) fun _ _ _ _ _ _ us hl=>match us,hl with | [_,_],_=>rfl
 obtain ⟨fd_q75,D_q75⟩:=c.def_ 6 (d:=ze0) rfl
 have F_q75:Fun K "run_of" "run_of" z6a _ fd_q75:=He5.fun_of D_q75
 have m_q75:=He.glo_ok X G (c.fact 6 (f:=.glo "run_of") rfl)
 have b_q75:=F_q75.binds (ps:=["text","at","signs"]) fun _ _ _ _ _ _ us hl=>match us,hl with | [_,_,_],_=>rfl
 obtain ⟨fd_q54,D_q54⟩:=c.def_ 7 (d:=zf6) rfl
 have F_q54:Fun K "is_tree" "is_tree" z5t _ fd_q54:=He5.fun_of D_q54
 have m_q54:=He.glo_ok X G (c.fact 7 (f:=.glo "is_tree") rfl)
 have b_q54:=F_q54.binds (ps:=["thing"]) fun _ _ _ _ _ _ us hl=>match us,hl with | [_],_=>rfl
 obtain ⟨fd_q46,D_q46⟩:=c.def_ 8 (d:=zg0) rfl
 have F_q46:Fun K "is_grove" "is_grove" z3k _ fd_q46:=He5.fun_of D_q46
 have m_q46:=He.glo_ok X G (c.fact 8 (f:=.glo "is_grove") rfl)
 have b_q46:=F_q46.binds (ps:=["thing"]) fun _ _ _ _ _ _ us hl=>match us,hl with | [_],_=>rfl
 obtain ⟨fd_q30,D_q30⟩:=c.def_ 9 (d:=zft) rfl
 have F_q30:Fun K "are_grove_pairs" "are_grove_pairs" z3n _ fd_q30:=He5.fun_of D_q30
 have m_q30:=He.glo_ok X G (c.fact 9 (f:=.glo "are_grove_pairs") rfl)
 have b_q30:=F_q30.binds (ps:=["things"]) fun _ _ _ _ _ _ us hl=>match us,hl with | [_],_=>rfl
 obtain ⟨fd_q81,D_q81⟩:=c.def_ 10 (d:=zga) rfl
 have F_q81:Fun K "together" "together" z6d _ fd_q81:=He5.fun_of D_q81
 have m_q81:=He.glo_ok X G (c.fact 10 (f:=.glo "together") rfl)
 have b_q81:=F_q81.binds (ps:=["one","other"]) fun _ _ _ _ _ _ us hl=>match us,hl with | [_,_],_=>rfl
 obtain ⟨fd_q83,D_q83⟩:=c.def_ 11 (d:=ze8) rfl
 have F_q83:Fun K "without" "without" z6h _ fd_q83:=He5.fun_of D_q83
 have m_q83:=He.glo_ok X G (c.fact 11 (f:=.glo "without") rfl)
 have b_q83:=F_q83.binds (ps:=["grove","tree","many"]) fun _ _ _ _ _ _ us hl=>match us,hl with | [_,_,_],_=>rfl
 obtain ⟨fd_q80,D_q80⟩:=c.def_ 12 (d:=zeo) rfl
 have F_q80:Fun K "times" "times" z4l _ fd_q80:=He5.fun_of D_q80
 have m_q80:=He.glo_ok X G (c.fact 12 (f:=.glo "times") rfl)
 have b_q80:=F_q80.binds (ps:=["grove","many"]) fun _ _ _ _ _ _ us hl=>match us,hl with | [_,_],_=>rfl
 obtain ⟨fd_q67,D_q67⟩:=c.def_ 13 (d:=zfe) rfl
 have F_q67:Fun K "pairs_within" "pairs_within" z6c _ fd_q67:=He5.fun_of D_q67
 have m_q67:=He.glo_ok X G (c.fact 13 (f:=.glo "pairs_within") rfl)
 have b_q67:=F_q67.binds (ps:=["grove"]) fun _ _ _ _ _ _ us hl=>match us,hl with | [_],_=>rfl
 obtain ⟨fd_q57,D_q57⟩:=c.def_ 14 (d:=zg5) rfl
 have F_q57:Fun K "kinds_within" "kinds_within" z3i _ fd_q57:=He5.fun_of D_q57
 have m_q57:=He.glo_ok X G (c.fact 14 (f:=.glo "kinds_within") rfl)
 have b_q57:=F_q57.binds (ps:=["grove"]) fun _ _ _ _ _ _ us hl=>match us,hl with | [_],_=>rfl
 obtain ⟨fd_q68,D_q68⟩:=c.def_ 15 (d:=zf9) rfl
 have F_q68:Fun K "parts_of" "parts_of" z6p _ fd_q68:=He5.fun_of D_q68
 have m_q68:=He.glo_ok X G (c.fact 15 (f:=.glo "parts_of") rfl)
 have b_q68:=F_q68.binds (ps:=["grove"]) fun _ _ _ _ _ _ us hl=>match us,hl with | [_],_=>rfl
 obtain ⟨fd_q40,D_q40⟩:=c.def_ 16 (d:=ze4) rfl
 have F_q40:Fun K "deep_of" "deep_of" z3h _ fd_q40:=He5.fun_of D_q40
 have m_q40:=He.glo_ok X G (c.fact 16 (f:=.glo "deep_of") rfl)
 have b_q40:=F_q40.binds (ps:=["grove"]) fun _ _ _ _ _ _ us hl=>match us,hl with | [_],_=>rfl
 obtain ⟨fd_q74,D_q74⟩:=c.def_ 17 (d:=zdx) rfl
 have F_q74:Fun K "rules_from_nought" "rules_from_nought" z6g _ fd_q74:=He5.fun_of D_q74
 have m_q74:=He.glo_ok X G (c.fact 17 (f:=.glo "rules_from_nought") rfl)
 have b_q74:=F_q74.binds (ps:=["book","name"]) fun _ _ _ _ _ _ us hl=>match us,hl with | [_,_],_=>rfl
 obtain ⟨fd_q36,D_q36⟩:=c.def_ 18 (d:=zgb) rfl
 have F_q36:Fun K "check_kind" "check_kind" z6q _ fd_q36:=He5.fun_of D_q36
 have m_q36:=He.glo_ok X G (c.fact 18 (f:=.glo "check_kind") rfl)
 have b_q36:=F_q36.binds (ps:=["book","name"]) fun _ _ _ _ _ _ us hl=>match us,hl with | [_,_],_=>rfl
 obtain ⟨fd_q37,D_q37⟩:=c.def_ 19 (d:=zg9) rfl
 have F_q37:Fun K "check_kinds" "check_kinds" z5r _ fd_q37:=He5.fun_of D_q37
 have m_q37:=He.glo_ok X G (c.fact 19 (f:=.glo "check_kinds") rfl)
 have b_q37:=F_q37.binds (ps:=["book","grove"]) fun _ _ _ _ _ _ us hl=>match us,hl with | [_,_],_=>rfl
 obtain ⟨fd_q31,D_q31⟩:=c.def_ 20 (d:=zem) rfl
 have F_q31:Fun K "are_kinds" "are_kinds" z2y _ fd_q31:=He5.fun_of D_q31
 have m_q31:=He.glo_ok X G (c.fact 20 (f:=.glo "are_kinds") rfl)
 have b_q31:=F_q31.binds (ps:=["things"]) fun _ _ _ _ _ _ us hl=>match us,hl with | [_],_=>rfl
 obtain ⟨fd_q47,D_q47⟩:=c.def_ 21 (d:=zg1) rfl
 have F_q47:Fun K "is_kind" "is_kind" z4c _ fd_q47:=He5.fun_of D_q47
 have m_q47:=He.glo_ok X G (c.fact 21 (f:=.glo "is_kind") rfl)
 have b_q47:=F_q47.binds (ps:=["thing"]) fun _ _ _ _ _ _ us hl=>match us,hl with | [_],_=>rfl
 obtain ⟨fd_q52,D_q52⟩:=c.def_ 22 (d:=ze3) rfl
 have F_q52:Fun K "is_rule" "is_rule" z42 _ fd_q52:=He5.fun_of D_q52
 have m_q52:=He.glo_ok X G (c.fact 22 (f:=.glo "is_rule") rfl)
 have b_q52:=F_q52.binds (ps:=["thing"]) fun _ _ _ _ _ _ us hl=>match us,hl with | [_],_=>rfl
 obtain ⟨fd_q53,D_q53⟩:=c.def_ 23 (d:=zf3) rfl
 have F_q53:Fun K "is_rule_of" "is_rule_of" z3l _ fd_q53:=He5.fun_of D_q53
 have m_q53:=He.glo_ok X G (c.fact 23 (f:=.glo "is_rule_of") rfl)
 have b_q53:=F_q53.binds (ps:=["rule","names"]) fun _ _ _ _ _ _ us hl=>match us,hl with | [_,_],_=>rfl
 obtain ⟨fd_q82,D_q82⟩:=c.def_ 24 (d:=zeb) rfl
 have F_q82:Fun K "tree_at" "tree_at" z5k _ fd_q82:=He5.fun_of D_q82
 have m_q82:=He.glo_ok X G (c.fact 24 (f:=.glo "tree_at") rfl)
 have b_q82:=F_q82.binds (ps:=["grove","place"]) fun _ _ _ _ _ _ us hl=>match us,hl with | [_,_],_=>rfl
 obtain ⟨fd_q65,D_q65⟩:=c.def_ 25 (d:=zer) rfl
 have F_q65:Fun K "number_of" "number_of" z4p _ fd_q65:=He5.fun_of D_q65
 have m_q65:=He.glo_ok X G (c.fact 25 (f:=.glo "number_of") rfl)
 have b_q65:=F_q65.binds (ps:=["grove","tree"]) fun _ _ _ _ _ _ us hl=>match us,hl with | [_,_],_=>rfl
 obtain ⟨fd_q28,D_q28⟩:=c.def_ 26 (d:=zfg) rfl
 have F_q28:Fun K "all_places" "all_places" z4f _ fd_q28:=He5.fun_of D_q28
 have m_q28:=He.glo_ok X G (c.fact 26 (f:=.glo "all_places") rfl)
 have b_q28:=F_q28.binds (ps:=["grove"]) fun _ _ _ _ _ _ us hl=>match us,hl with | [_],_=>rfl
 obtain ⟨fd_q43,D_q43⟩:=c.def_ 27 (d:=zge) rfl
 have F_q43:Fun K "fallen" "fallen" z63 _ fd_q43:=He5.fun_of D_q43
 have m_q43:=He.glo_ok X G (c.fact 27 (f:=.glo "fallen") rfl)
 have b_q43:=F_q43.binds (ps:=["book","grove","place","rule","number"]) fun _ _ _ _ _ _ us hl=>match us,hl with | [_,_,_,_,_],_=>rfl
 obtain ⟨fd_q73,D_q73⟩:=c.def_ 28 (d:=zf7) rfl
 have F_q73:Fun K "rule_at" "rule_at" z5y _ fd_q73:=He5.fun_of D_q73
 have m_q73:=He.glo_ok X G (c.fact 28 (f:=.glo "rule_at") rfl)
 have b_q73:=F_q73.binds (ps:=["book","kind","rule"]) fun _ _ _ _ _ _ us hl=>match us,hl with | [_,_,_],_=>rfl
 obtain ⟨fd_q38,D_q38⟩:=c.def_ 29 (d:=zev) rfl
 have F_q38:Fun K "check_number" "check_number" z60 _ fd_q38:=He5.fun_of D_q38
 have m_q38:=He.glo_ok X G (c.fact 29 (f:=.glo "check_number") rfl)
 have b_q38:=F_q38.binds (ps:=["thing"]) fun _ _ _ _ _ _ us hl=>match us,hl with | [_],_=>rfl
 obtain ⟨fd_q34,D_q34⟩:=c.def_ 30 (d:=zef) rfl
 have F_q34:Fun K "check_bound" "check_bound" z5l _ fd_q34:=He5.fun_of D_q34
 have m_q34:=He.glo_ok X G (c.fact 30 (f:=.glo "check_bound") rfl)
 have b_q34:=F_q34.binds (ps:=["grove"]) fun _ _ _ _ _ _ us hl=>match us,hl with | [_],_=>rfl
 obtain ⟨fd_q45,D_q45⟩:=c.def_ 31 (d:=zfq) rfl
 have F_q45:Fun K "grown" "grown" z6j _ fd_q45:=He5.fun_of D_q45
 have m_q45:=He.glo_ok X G (c.fact 31 (f:=.glo "grown") rfl)
 have b_q45:=F_q45.binds (ps:=["rule","number"]) fun _ _ _ _ _ _ us hl=>match us,hl with | [_,_],_=>rfl
 obtain ⟨fd_q44,D_q44⟩:=c.def_ 32 (d:=zdq) rfl
 have F_q44:Fun K "further_ones" "further_ones" z5i _ fd_q44:=He5.fun_of D_q44
 have m_q44:=He.glo_ok X G (c.fact 32 (f:=.glo "further_ones") rfl)
 have b_q44:=F_q44.binds (ps:=["book","kind","number"]) fun _ _ _ _ _ _ us hl=>match us,hl with | [_,_,_],_=>rfl
 obtain ⟨fd_q79,D_q79⟩:=c.def_ 33 (d:=zfi) rfl
 have F_q79:Fun K "struck" "struck" z6f _ fd_q79:=He5.fun_of D_q79
 have m_q79:=He.glo_ok X G (c.fact 33 (f:=.glo "struck") rfl)
 have b_q79:=F_q79.binds (ps:=["book","grove","place","fresh","number"]) fun _ _ _ _ _ _ us hl=>match us,hl with | [_,_,_,_,_],_=>rfl
 obtain ⟨fd_q64,D_q64⟩:=c.def_ 34 (d:=zel) rfl
 have F_q64:Fun K "number" "number" z6i _ fd_q64:=He5.fun_of D_q64
 have m_q64:=He.glo_ok X G (c.fact 34 (f:=.glo "number") rfl)
 have b_q64:=F_q64.binds (ps:=["many"]) fun _ _ _ _ _ _ us hl=>match us,hl with | [_],_=>rfl
 obtain ⟨fd_q48,D_q48⟩:=c.def_ 35 (d:=ze2) rfl
 have F_q48:Fun K "is_less" "is_less" z3m _ fd_q48:=He5.fun_of D_q48
 have m_q48:=He.glo_ok X G (c.fact 35 (f:=.glo "is_less") rfl)
 have b_q48:=F_q48.binds (ps:=["one","other"]) fun _ _ _ _ _ _ us hl=>match us,hl with | [_,_],_=>rfl
 obtain ⟨fd_q32,D_q32⟩:=c.def_ 36 (d:=ze9) rfl
 have F_q32:Fun K "behind" "behind" z3q _ fd_q32:=He5.fun_of D_q32
 have m_q32:=He.glo_ok X G (c.fact 36 (f:=.glo "behind") rfl)
 have b_q32:=F_q32.binds (ps:=["one","other"]) fun _ _ _ _ _ _ us hl=>match us,hl with | [_,_],_=>rfl
 obtain ⟨fd_q33,D_q33⟩:=c.def_ 37 (d:=zeu) rfl
 have F_q33:Fun K "both" "both" z5n _ fd_q33:=He5.fun_of D_q33
 have m_q33:=He.glo_ok X G (c.fact 37 (f:=.glo "both") rfl)
 have b_q33:=F_q33.binds (ps:=["one","other"]) fun _ _ _ _ _ _ us hl=>match us,hl with | [_,_],_=>rfl
 obtain ⟨fd_q29,D_q29⟩:=c.def_ 38 (d:=zg8) rfl
 have F_q29:Fun K "all_together" "all_together" z4o _ fd_q29:=He5.fun_of D_q29
 have m_q29:=He.glo_ok X G (c.fact 38 (f:=.glo "all_together") rfl)
 have b_q29:=F_q29.binds (ps:=["some"]) fun _ _ _ _ _ _ us hl=>match us,hl with | [_],_=>rfl
 obtain ⟨fd_q63,D_q63⟩:=c.def_ 39 (d:=zfr) rfl
 have F_q63:Fun K "many_of" "many_of" z49 _ fd_q63:=He5.fun_of D_q63
 have m_q63:=He.glo_ok X G (c.fact 39 (f:=.glo "many_of") rfl)
 have b_q63:=F_q63.binds (ps:=["ladder","many"]) fun _ _ _ _ _ _ us hl=>match us,hl with | [_,_],_=>rfl
 obtain ⟨fd_q69,D_q69⟩:=c.def_ 40 (d:=zfx) rfl
 have F_q69:Fun K "power" "power" z5o _ fd_q69:=He5.fun_of D_q69
 have m_q69:=He.glo_ok X G (c.fact 40 (f:=.glo "power") rfl)
 have b_q69:=F_q69.binds (ps:=["ladder"]) fun _ _ _ _ _ _ us hl=>match us,hl with | [_],_=>rfl
 obtain ⟨fd_q27,D_q27⟩:=c.def_ 41 (d:=zfb) rfl
 have F_q27:Fun K "above" "above" z48 _ fd_q27:=He5.fun_of D_q27
 have m_q27:=He.glo_ok X G (c.fact 41 (f:=.glo "above") rfl)
 have b_q27:=F_q27.binds (ps:=["one","other"]) fun _ _ _ _ _ _ us hl=>match us,hl with | [_,_],_=>rfl
 obtain ⟨fd_q76,D_q76⟩:=c.def_ 42 (d:=zf1) rfl
 have F_q76:Fun K "spread" "spread" z5z _ fd_q76:=He5.fun_of D_q76
 have m_q76:=He.glo_ok X G (c.fact 42 (f:=.glo "spread") rfl)
 have b_q76:=F_q76.binds (ps:=["one","other"]) fun _ _ _ _ _ _ us hl=>match us,hl with | [_,_],_=>rfl
 obtain ⟨fd_q78,D_q78⟩:=c.def_ 43 (d:=zfz) rfl
 have F_q78:Fun K "steps_of" "steps_of" z5c _ fd_q78:=He5.fun_of D_q78
 have m_q78:=He.glo_ok X G (c.fact 43 (f:=.glo "steps_of") rfl)
 have b_q78:=F_q78.binds (ps:=["book","name"]) fun _ _ _ _ _ _ us hl=>match us,hl with | [_,_],_=>rfl
 obtain ⟨fd_q77,D_q77⟩:=c.def_ 44 (d:=zei) rfl
 have F_q77:Fun K "steps_in" "steps_in" z3g _ fd_q77:=He5.fun_of D_q77
 have m_q77:=He.glo_ok X G (c.fact 44 (f:=.glo "steps_in") rfl)
 have b_q77:=F_q77.binds (ps:=["name","rule","word","grove"]) fun _ _ _ _ _ _ us hl=>match us,hl with | [_,_,_,_],_=>rfl
 obtain ⟨fd_q61,D_q61⟩:=c.def_ 45 (d:=zek) rfl
 have F_q61:Fun K "leads" "leads" z3t _ fd_q61:=He5.fun_of D_q61
 have m_q61:=He.glo_ok X G (c.fact 45 (f:=.glo "leads") rfl)
 have b_q61:=F_q61.binds (ps:=["book","name"]) fun _ _ _ _ _ _ us hl=>match us,hl with | [_,_],_=>rfl
 obtain ⟨fd_q41,D_q41⟩:=c.def_ 46 (d:=ze6) rfl
 have F_q41:Fun K "ending_kinds" "ending_kinds" z4e _ fd_q41:=He5.fun_of D_q41
 have m_q41:=He.glo_ok X G (c.fact 46 (f:=.glo "ending_kinds") rfl)
 have b_q41:=F_q41.binds (ps:=["book"]) fun _ _ _ _ _ _ us hl=>match us,hl with | [_],_=>rfl
 obtain ⟨fd_q60,D_q60⟩:=c.def_ 47 (d:=zen) rfl
 have F_q60:Fun K "lead_into" "lead_into" z4m _ fd_q60:=He5.fun_of D_q60
 have m_q60:=He.glo_ok X G (c.fact 47 (f:=.glo "lead_into") rfl)
 have b_q60:=F_q60.binds (ps:=["led","ending"]) fun _ _ _ _ _ _ us hl=>match us,hl with | [_,_],_=>rfl
 obtain ⟨fd_q42,D_q42⟩:=c.def_ 48 (d:=zfo) rfl
 have F_q42:Fun K "endless_kinds" "endless_kinds" z4h _ fd_q42:=He5.fun_of D_q42
 have m_q42:=He.glo_ok X G (c.fact 48 (f:=.glo "endless_kinds") rfl)
 have b_q42:=F_q42.binds (ps:=["book"]) fun _ _ _ _ _ _ us hl=>match us,hl with | [_],_=>rfl
 obtain ⟨fd_q35,D_q35⟩:=c.def_ 49 (d:=ze7) rfl
 have F_q35:Fun K "check_ends" "check_ends" z6m _ fd_q35:=He5.fun_of D_q35
 have m_q35:=He.glo_ok X G (c.fact 49 (f:=.glo "check_ends") rfl)
 have b_q35:=F_q35.binds (ps:=["book","grove"]) fun _ _ _ _ _ _ us hl=>match us,hl with | [_,_],_=>rfl
 obtain ⟨fd_q70,D_q70⟩:=c.def_ 50 (d:=zfp) rfl
 have F_q70:Fun K "rank" "rank" z5f _ fd_q70:=He5.fun_of D_q70
 have m_q70:=He.glo_ok X G (c.fact 50 (f:=.glo "rank") rfl)
 have b_q70:=F_q70.binds (ps:=["book","grove"]) fun _ _ _ _ _ _ us hl=>match us,hl with | [_,_],_=>rfl
 obtain ⟨fd_q66,D_q66⟩:=c.def_ 51 (d:=zeq) rfl
 have F_q66:Fun K "own_ranks" "own_ranks" z3s _ fd_q66:=He5.fun_of D_q66
 have m_q66:=He.glo_ok X G (c.fact 51 (f:=.glo "own_ranks") rfl)
 have b_q66:=F_q66.binds (ps:=["book"]) fun _ _ _ _ _ _ us hl=>match us,hl with | [_],_=>rfl
 obtain ⟨fd_q39,D_q39⟩:=c.def_ 52 (d:=zf8) rfl
 have F_q39:Fun K "climb" "climb" z5s _ fd_q39:=He5.fun_of D_q39
 have m_q39:=He.glo_ok X G (c.fact 52 (f:=.glo "climb") rfl)
 have b_q39:=F_q39.binds (ps:=["book","worths","rule"]) fun _ _ _ _ _ _ us hl=>match us,hl with | [_,_,_],_=>rfl
 obtain ⟨fd_q71,D_q71⟩:=c.def_ 53 (d:=zg7) rfl
 have F_q71:Fun K "reckoned" "reckoned" z4d _ fd_q71:=He5.fun_of D_q71
 have m_q71:=He.glo_ok X G (c.fact 53 (f:=.glo "reckoned") rfl)
 have b_q71:=F_q71.binds (ps:=["book","worths","grove"]) fun _ _ _ _ _ _ us hl=>match us,hl with | [_,_,_],_=>rfl
 obtain ⟨fd_q72,D_q72⟩:=c.def_ 54 (d:=zed) rfl
 have F_q72:Fun K "reckoned_tree" "reckoned_tree" z5j _ fd_q72:=He5.fun_of D_q72
 have m_q72:=He.glo_ok X G (c.fact 54 (f:=.glo "reckoned_tree") rfl)
 have b_q72:=F_q72.binds (ps:=["book","worths","tree"]) fun _ _ _ _ _ _ us hl=>match us,hl with | [_,_,_],_=>rfl
 obtain ⟨fd_q58,D_q58⟩:=c.def_ 55 (d:=zg3) rfl
 have F_q58:Fun K "laden" "laden" z6l _ fd_q58:=He5.fun_of D_q58
 have m_q58:=He.glo_ok X G (c.fact 55 (f:=.glo "laden") rfl)
 have b_q58:=F_q58.binds (ps:=["book","kind","own","inner"]) fun _ _ _ _ _ _ us hl=>match us,hl with | [_,_,_,_],_=>rfl
 obtain ⟨fd_q15,D_q15⟩:=c.def_ 56 (d:=zfa) rfl
 have F_q15:Fun K "_law_draws" "_law_draws" z5g _ fd_q15:=He5.fun_of D_q15
 have m_q15:=He.glo_ok X G (c.fact 56 (f:=.glo "_law_draws") rfl)
 have b_q15:=F_q15.binds (ps:=["_law_script","_law_many_here"]) fun _ _ _ _ _ _ us hl=>match us,hl with | [_,_],_=>rfl
 obtain ⟨fd_q24,D_q24⟩:=c.def_ 57 (d:=zf4) rfl
 have F_q24:Fun K "_law_next" "_law_next" z68 _ fd_q24:=He5.fun_of D_q24
 have m_q24:=He.glo_ok X G (c.fact 57 (f:=.glo "_law_next") rfl)
 have b_q24:=F_q24.binds (ps:=["_law_draws_here"]) fun _ _ _ _ _ _ us hl=>match us,hl with | [_],_=>rfl
 obtain ⟨fd_q23,D_q23⟩:=c.def_ 58 (d:=zeh) rfl
 have F_q23:Fun K "_law_names" "_law_names" z6e _ fd_q23:=He5.fun_of D_q23
 have m_q23:=He.glo_ok X G (c.fact 58 (f:=.glo "_law_names") rfl)
 have b_q23:=F_q23.binds (ps:=["_law_draws_here","_law_many_here"]) fun _ _ _ _ _ _ us hl=>match us,hl with | [_,_],_=>rfl
 obtain ⟨fd_q22,D_q22⟩:=c.def_ 59 (d:=zg4) rfl
 have F_q22:Fun K "_law_many" "_law_many" z65 _ fd_q22:=He5.fun_of D_q22
 have m_q22:=He.glo_ok X G (c.fact 59 (f:=.glo "_law_many") rfl)
 have b_q22:=F_q22.binds (ps:=["_law_draws_here","_law_great"]) fun _ _ _ _ _ _ us hl=>match us,hl with | [_,_],_=>rfl
 obtain ⟨fd_q17,D_q17⟩:=c.def_ 60 (d:=zfj) rfl
 have F_q17:Fun K "_law_grove" "_law_grove" z30 _ fd_q17:=He5.fun_of D_q17
 have m_q17:=He.glo_ok X G (c.fact 60 (f:=.glo "_law_grove") rfl)
 have b_q17:=F_q17.binds (ps:=["_law_draws_here","_law_names_here","_law_room","_law_great"]) fun _ _ _ _ _ _ us hl=>match us,hl with | [_,_,_,_],_=>rfl
 obtain ⟨fd_q19,D_q19⟩:=c.def_ 61 (d:=zdo) rfl
 have F_q19:Fun K "_law_kinds" "_law_kinds" z5w _ fd_q19:=He5.fun_of D_q19
 have m_q19:=He.glo_ok X G (c.fact 61 (f:=.glo "_law_kinds") rfl)
 have b_q19:=F_q19.binds (ps:=["_law_draws_here","_law_names_here","_law_rounds"]) fun _ _ _ _ _ _ us hl=>match us,hl with | [_,_,_],_=>rfl
 obtain ⟨fd_q13,D_q13⟩:=c.def_ 62 (d:=zgc) rfl
 have F_q13:Fun K "_law_book" "_law_book" z4b _ fd_q13:=He5.fun_of D_q13
 have m_q13:=He.glo_ok X G (c.fact 62 (f:=.glo "_law_book") rfl)
 have b_q13:=F_q13.binds (ps:=["_law_kinds_here"]) fun _ _ _ _ _ _ us hl=>match us,hl with | [_],_=>rfl
 obtain ⟨fd_q21,D_q21⟩:=c.def_ 63 (d:=zfv) rfl
 have F_q21:Fun K "_law_less" "_law_less" z5q _ fd_q21:=He5.fun_of D_q21
 have m_q21:=He.glo_ok X G (c.fact 63 (f:=.glo "_law_less") rfl)
 have b_q21:=F_q21.binds (ps:=["_law_one","_law_other"]) fun _ _ _ _ _ _ us hl=>match us,hl with | [_,_],_=>rfl
 obtain ⟨fd_q20,D_q20⟩:=c.def_ 64 (d:=zdp) rfl
 have F_q20:Fun K "_law_ladder" "_law_ladder" z61 _ fd_q20:=He5.fun_of D_q20
 have m_q20:=He.glo_ok X G (c.fact 64 (f:=.glo "_law_ladder") rfl)
 have b_q20:=F_q20.binds (ps:=["_law_found"]) fun _ _ _ _ _ _ us hl=>match us,hl with | [_],_=>rfl
 obtain ⟨fd_q18,D_q18⟩:=c.def_ 65 (d:=zez) rfl
 have F_q18:Fun K "_law_in" "_law_in" z5d _ fd_q18:=He5.fun_of D_q18
 have m_q18:=He.glo_ok X G (c.fact 65 (f:=.glo "_law_in") rfl)
 have b_q18:=F_q18.binds (ps:=["_law_grove_here"]) fun _ _ _ _ _ _ us hl=>match us,hl with | [_],_=>rfl
 obtain ⟨fd_q25,D_q25⟩:=c.def_ 66 (d:=ze5) rfl
 have F_q25:Fun K "_law_places" "_law_places" z5e _ fd_q25:=He5.fun_of D_q25
 have m_q25:=He.glo_ok X G (c.fact 66 (f:=.glo "_law_places") rfl)
 have b_q25:=F_q25.binds (ps:=["_law_grove_here","_law_ahead"]) fun _ _ _ _ _ _ us hl=>match us,hl with | [_,_],_=>rfl
 obtain ⟨fd_q14,D_q14⟩:=c.def_ 67 (d:=zfh) rfl
 have F_q14:Fun K "_law_deep" "_law_deep" z3y _ fd_q14:=He5.fun_of D_q14
 have m_q14:=He.glo_ok X G (c.fact 67 (f:=.glo "_law_deep") rfl)
 have b_q14:=F_q14.binds (ps:=["_law_grove_here"]) fun _ _ _ _ _ _ us hl=>match us,hl with | [_],_=>rfl
 obtain ⟨fd_q16,D_q16⟩:=c.def_ 68 (d:=zdr) rfl
 have F_q16:Fun K "_law_fits" "_law_fits" z6o _ fd_q16:=He5.fun_of D_q16
 have m_q16:=He.glo_ok X G (c.fact 68 (f:=.glo "_law_fits") rfl)
 have b_q16:=F_q16.binds (ps:=["_law_grove_here"]) fun _ _ _ _ _ _ us hl=>match us,hl with | [_],_=>rfl
 obtain ⟨fd_q12,D_q12⟩:=c.def_ 69 (d:=zdz) rfl
 have F_q12:Fun K "_law_asked" "_law_asked" z5x _ fd_q12:=He5.fun_of D_q12
 have m_q12:=He.glo_ok X G (c.fact 69 (f:=.glo "_law_asked") rfl)
 have b_q12:=F_q12.binds (ps:=["_law_book_here","_law_play","_law_asked_here","_law_many_here"]) fun _ _ _ _ _ _ us hl=>match us,hl with | [_,_,_,_],_=>rfl
 obtain ⟨fd_q26,D_q26⟩:=c.def_ 70 (d:=zes) rfl
 have F_q26:Fun K "_law_taken_back" "_law_taken_back" z5u _ fd_q26:=He5.fun_of D_q26
 have m_q26:=He.glo_ok X G (c.fact 70 (f:=.glo "_law_taken_back") rfl)
 have b_q26:=F_q26.binds (ps:=["_law_book_here","_law_play","_law_stood","_law_asked_here"]) fun _ _ _ _ _ _ us hl=>match us,hl with | [_,_,_,_],_=>rfl
 obtain ⟨fd_q59,D_q59⟩:=c.def_ 71 (d:=zf2) rfl
 have F_q59:Fun K "law" "law" z3v _ fd_q59:=He5.fun_of D_q59
 have m_q59:=He.glo_ok X G (c.fact 71 (f:=.glo "law") rfl)
 obtain ⟨fd_q5,D_q5⟩:=c.def_ 72 (d:=d_q5) rfl
 have F_q5:Fun K "__init__" "NoKind.__init__" s_q5 _ fd_q5:=He5.fun_of D_q5
 have b_q5:=F_q5.binds (ps:=["self","kind"]) fun _ _ _ _ _ _ us hl=>match us,hl with | [_,_],_=>rfl
 obtain ⟨fd_q4,D_q4⟩:=c.def_ 73 (d:=d_q4) rfl
 have F_q4:Fun K "__init__" "Endless.__init__" s_q4 _ fd_q4:=He5.fun_of D_q4
 have b_q4:=F_q4.binds (ps:=["self","kind"]) fun _ _ _ _ _ _ us hl=>match us,hl with | [_,_],_=>rfl
 obtain ⟨fd_q0,D_q0⟩:=c.def_ 74 (d:=d_q0) rfl
 have F_q0:Fun K "__init__" "Book.__init__" s_q0 _ fd_q0:=He5.fun_of D_q0
 have b_q0:=F_q0.binds (ps:=["self","kinds"]) fun _ _ _ _ _ _ us hl=>match us,hl with | [_,_],_=>rfl
 obtain ⟨fd_q1,D_q1⟩:=c.def_ 75 (d:=d_q1) rfl
 have F_q1:Fun K "names" "Book.names" s_q1 _ fd_q1:=He5.fun_of D_q1
 have b_q1:=F_q1.binds (ps:=["self"]) fun _ _ _ _ _ _ us hl=>match us,hl with | [_],_=>rfl
 obtain ⟨fd_q3,D_q3⟩:=c.def_ 76 (d:=d_q3) rfl
 have F_q3:Fun K "spreads" "Book.spreads" s_q3 _ fd_q3:=He5.fun_of D_q3
 have b_q3:=F_q3.binds (ps:=["self","name"]) fun _ _ _ _ _ _ us hl=>match us,hl with | [_,_],_=>rfl
 obtain ⟨fd_q2,D_q2⟩:=c.def_ 77 (d:=d_q2) rfl
 have F_q2:Fun K "rules" "Book.rules" s_q2 _ fd_q2:=He5.fun_of D_q2
 have b_q2:=F_q2.binds (ps:=["self","name"]) fun _ _ _ _ _ _ us hl=>match us,hl with | [_,_],_=>rfl
 obtain ⟨fd_q6,D_q6⟩:=c.def_ 78 (d:=d_q6) rfl
 have F_q6:Fun K "__init__" "Play.__init__" s_q6 _ fd_q6:=He5.fun_of D_q6
 have b_q6:=F_q6.binds (ps:=["self","book","grove"]) fun _ _ _ _ _ _ us hl=>match us,hl with | [_,_,_],_=>rfl
 obtain ⟨fd_q11,D_q11⟩:=c.def_ 79 (d:=zfs) rfl
 have F_q11:Fun K "grove" "Play.grove" z5h _ fd_q11:=He5.fun_of D_q11
 have b_q11:=F_q11.binds (ps:=["self"]) fun _ _ _ _ _ _ us hl=>match us,hl with | [_],_=>rfl
 obtain ⟨fd_q10,D_q10⟩:=c.def_ 80 (d:=zds) rfl
 have F_q10:Fun K "falls" "Play.falls" z5p _ fd_q10:=He5.fun_of D_q10
 have b_q10:=F_q10.binds (ps:=["self"]) fun _ _ _ _ _ _ us hl=>match us,hl with | [_],_=>rfl
 obtain ⟨fd_q9,D_q9⟩:=c.def_ 81 (d:=d_q9) rfl
 have F_q9:Fun K "fall" "Play.fall" s_q9 _ fd_q9:=He5.fun_of D_q9
 have b_q9:=F_q9.binds (ps:=["self","place","rule","number"]) fun _ _ _ _ _ _ us hl=>match us,hl with | [_,_,_,_],_=>rfl
 obtain ⟨fd_q8,D_q8⟩:=c.def_ 82 (d:=d_q8) rfl
 have F_q8:Fun K "back" "Play.back" s_q8 _ fd_q8:=He5.fun_of D_q8
 have b_q8:=F_q8.binds (ps:=["self"]) fun _ _ _ _ _ _ us hl=>match us,hl with | [_],_=>rfl
 obtain ⟨fd_q7,D_q7⟩:=c.def_ 83 (d:=d_q7) rfl
 have F_q7:Fun K "again" "Play.again" s_q7 _ fd_q7:=He5.fun_of D_q7
 have b_q7:=F_q7.binds (ps:=["self"]) fun _ _ _ _ _ _ us hl=>match us,hl with | [_],_=>rfl
 have B:BI mg:=⟨He.free_ok X G (c.fact 72 (f:=.free "len") rfl),He.free_ok X G (c.fact 73 (f:=.free "isinstance") rfl),He.free_ok X G (c.fact 74 (f:=.free "int") rfl),He.free_ok X G (c.fact 75 (f:=.free "bool") rfl),He.free_ok X G (c.fact 76 (f:=.free "str") rfl),He.free_ok X G (c.fact 77 (f:=.free "tuple") rfl),He.free_ok X G (c.fact 78 (f:=.free "list") rfl),He.free_ok X G (c.fact 79 (f:=.free "all") rfl),He.free_ok X G (c.fact 80 (f:=.free "zip") rfl),He.free_ok X G (c.fact 81 (f:=.free "sum") rfl),He.free_ok X G (c.fact 82 (f:=.free "max") rfl),He.free_ok X G (c.fact 83 (f:=.free "range") rfl),He.free_ok X G (c.fact 84 (f:=.free "enumerate") rfl),He.free_ok X G (c.fact 85 (f:=.free "abs") rfl),He.free_ok X G (c.fact 86 (f:=.free "sorted") rfl),He.free_ok X G (c.fact 87 (f:=.free "min") rfl),He.free_ok X G (c.fact 88 (f:=.free "reversed") rfl),He.free_ok X G (c.fact 89 (f:=.free "any") rfl),He.free_ok X G (c.fact 90 (f:=.free "set") rfl),He.free_ok X G (c.fact 91 (f:=.free "dict") rfl),He.free_ok X G (c.fact 92 (f:=.free "repr") rfl)⟩
 obtain ⟨xk_NoKind,cx⟩:=He.ba cx
 obtain ⟨xk_Endless,cx⟩:=He.ba cx
 obtain ⟨xt_NO_GROVES,cx⟩:=He.ba cx
 have W_NO_GROVES:=zh5 xt_NO_GROVES
 have T:zba K mg (He.ga K) eC eN eK:=zh1 cx (fun n hn=>by
   rcases List.mem_cons.mp hn with e | hn
   ·rw [e]; exact He.glo_ok X G (c.fact 95 (f:=.glo "NoPlace") rfl)
   rcases List.mem_cons.mp hn with e | hn
   ·rw [e]; exact He.glo_ok X G (c.fact 96 (f:=.glo "NoBook") rfl)
   rcases List.mem_cons.mp hn with e | hn
   ·rw [e]; exact He.glo_ok X G (c.fact 97 (f:=.glo "NoKind") rfl)
   rcases List.mem_cons.mp hn with e | hn
   ·rw [e]; exact He.glo_ok X G (c.fact 98 (f:=.glo "NoRule") rfl)
   rcases List.mem_cons.mp hn with e | hn
   ·rw [e]; exact He.glo_ok X G (c.fact 99 (f:=.glo "NoNumber") rfl)
   rcases List.mem_cons.mp hn with e | hn
   ·rw [e]; exact He.glo_ok X G (c.fact 100 (f:=.glo "TooGreat") rfl)
   rcases List.mem_cons.mp hn with e | hn
   ·rw [e]; exact He.glo_ok X G (c.fact 101 (f:=.glo "NoFall") rfl)
   rcases List.mem_cons.mp hn with e | hn
   ·rw [e]; exact He.glo_ok X G (c.fact 102 (f:=.glo "Endless") rfl)
   exact nomatch hn) (He.glo_ok X G (c.fact 93 (f:=.glo "FellError") rfl)) (He.free_ok X G (c.fact 94 (f:=.free "ValueError") rfl)) (fun n hn=>by
   exact nomatch hn)
 have L_LETTERS:=He.str_ok X G (c.fact 103 (f:=.str "LETTERS" "abcdefghijklmnopqrstuvwxyz") rfl)
 have L_LONGEST_NAME:=He.int_ok X G (c.fact 104 (f:=.int "LONGEST_NAME" (8)) rfl)
 have L_MOST_KINDS:=He.int_ok X G (c.fact 105 (f:=.int "MOST_KINDS" (8)) rfl)
 have L_MOST_RULES:=He.int_ok X G (c.fact 106 (f:=.int "MOST_RULES" (4)) rfl)
 have L_MOST_RULE_PARTS:=He.int_ok X G (c.fact 107 (f:=.int "MOST_RULE_PARTS" (4)) rfl)
 have L_MOST_MANY:=He.int_ok X G (c.fact 108 (f:=.int "MOST_MANY" (1000000000)) rfl)
 have L_MOST_PARTS_STANDING:=He.int_ok X G (c.fact 109 (f:=.int "MOST_PARTS_STANDING" (2000)) rfl)
 have L_MOST_DEEP_STANDING:=He.int_ok X G (c.fact 110 (f:=.int "MOST_DEEP_STANDING" (60)) rfl)
 have V_NO_GROVES:=He.glo_ok X G (c.fact 111 (f:=.glo "NO_GROVES") rfl)
 have O_NoBook:Own K mg "NoBook" (He.ga K "NoBook"):=by
  obtain ⟨y1,y2,y3,y4⟩:=He.exc_ok (c.fact 112 (f:=.exc "NoBook") rfl)
  exact ⟨He.glo_ok X G (c.fact 96 (f:=.glo "NoBook") rfl),y1,y2,y3,y4⟩
 have O_NoFall:Own K mg "NoFall" (He.ga K "NoFall"):=by
  obtain ⟨y1,y2,y3,y4⟩:=He.exc_ok (c.fact 113 (f:=.exc "NoFall") rfl)
  exact ⟨He.glo_ok X G (c.fact 101 (f:=.glo "NoFall") rfl),y1,y2,y3,y4⟩
 have O_NoNumber:Own K mg "NoNumber" (He.ga K "NoNumber"):=by
  obtain ⟨y1,y2,y3,y4⟩:=He.exc_ok (c.fact 114 (f:=.exc "NoNumber") rfl)
  exact ⟨He.glo_ok X G (c.fact 99 (f:=.glo "NoNumber") rfl),y1,y2,y3,y4⟩
 have O_NoPlace:Own K mg "NoPlace" (He.ga K "NoPlace"):=by
  obtain ⟨y1,y2,y3,y4⟩:=He.exc_ok (c.fact 115 (f:=.exc "NoPlace") rfl)
  exact ⟨He.glo_ok X G (c.fact 95 (f:=.glo "NoPlace") rfl),y1,y2,y3,y4⟩
 have O_NoRule:Own K mg "NoRule" (He.ga K "NoRule"):=by
  obtain ⟨y1,y2,y3,y4⟩:=He.exc_ok (c.fact 116 (f:=.exc "NoRule") rfl)
  exact ⟨He.glo_ok X G (c.fact 98 (f:=.glo "NoRule") rfl),y1,y2,y3,y4⟩
 have O_TooGreat:Own K mg "TooGreat" (He.ga K "TooGreat"):=by
  obtain ⟨y1,y2,y3,y4⟩:=He.exc_ok (c.fact 117 (f:=.exc "TooGreat") rfl)
  exact ⟨He.glo_ok X G (c.fact 100 (f:=.glo "TooGreat") rfl),y1,y2,y3,y4⟩
 have m_NoKind:=He.glo_ok X G (c.fact 97 (f:=.glo "NoKind") rfl)
 have h_NoKind:=He.meth_ok (c.fact 118 (f:=.meth "NoKind" "__init__") rfl)
 have n_NoKind:=He.noat_ok (c.fact 119 (f:=.noat "NoKind" "kind") rfl)
 have m_Endless:=He.glo_ok X G (c.fact 102 (f:=.glo "Endless") rfl)
 have h_Endless:=He.meth_ok (c.fact 120 (f:=.meth "Endless" "__init__") rfl)
 have n_Endless:=He.noat_ok (c.fact 121 (f:=.noat "Endless" "kind") rfl)
 have m_Book:=He.glo_ok X G (c.fact 122 (f:=.glo "Book") rfl)
 have c_Book:=He.cls_ok (c.fact 123 (f:=.cls "Book") rfl)
 have T_Book:ClsF K (He.ga K "Book") ["spread_by_name","rows_by_name"]:=⟨c_Book,fun f hf=>by
   rcases List.mem_cons.mp hf with e | hf
   ·rw [e]; exact He.noat_ok (c.fact 124 (f:=.noat "Book" "spread_by_name") rfl)
   rcases List.mem_cons.mp hf with e | hf
   ·rw [e]; exact He.noat_ok (c.fact 125 (f:=.noat "Book" "rows_by_name") rfl)
   exact nomatch hf⟩
 have h_q0:=He.mkr_ok (c.fact 126 (f:=.mkr "Book") rfl)
 have h_q1:=He.meth_ok (c.fact 127 (f:=.meth "Book" "names") rfl)
 have h_q3:=He.meth_ok (c.fact 128 (f:=.meth "Book" "spreads") rfl)
 have h_q2:=He.meth_ok (c.fact 129 (f:=.meth "Book" "rules") rfl)
 have m_Play:=He.glo_ok X G (c.fact 130 (f:=.glo "Play") rfl)
 have c_Play:=He.cls_ok (c.fact 131 (f:=.cls "Play") rfl)
 have T_Play:ClsF K (He.ga K "Play") ["book","stood","done","undone"]:=⟨c_Play,fun f hf=>by
   rcases List.mem_cons.mp hf with e | hf
   ·rw [e]; exact He.noat_ok (c.fact 132 (f:=.noat "Play" "book") rfl)
   rcases List.mem_cons.mp hf with e | hf
   ·rw [e]; exact He.noat_ok (c.fact 133 (f:=.noat "Play" "stood") rfl)
   rcases List.mem_cons.mp hf with e | hf
   ·rw [e]; exact He.noat_ok (c.fact 134 (f:=.noat "Play" "done") rfl)
   rcases List.mem_cons.mp hf with e | hf
   ·rw [e]; exact He.noat_ok (c.fact 135 (f:=.noat "Play" "undone") rfl)
   exact nomatch hf⟩
 have h_q6:=He.mkr_ok (c.fact 136 (f:=.mkr "Play") rfl)
 have h_q11:=He.meth_ok (c.fact 137 (f:=.meth "Play" "grove") rfl)
 have h_q10:=He.meth_ok (c.fact 138 (f:=.meth "Play" "falls") rfl)
 have h_q9:=He.meth_ok (c.fact 139 (f:=.meth "Play" "fall") rfl)
 have h_q8:=He.meth_ok (c.fact 140 (f:=.meth "Play" "back") rfl)
 have h_q7:=He.meth_ok (c.fact 141 (f:=.meth "Play" "again") rfl)
 have e:=hfa.symm.trans m_q59
 cases e
 have b:=FunD.bindsA (ps:=["_law_script"]) D_q59 fun _ _ _ _ _ _ us hl=>match us,hl with | [_],_=>rfl
 refine ⟨fd_q59,fun s v=>b s [v] rfl,fun base _ _=>?_⟩
 have g_q56:Got P w K mg base "joined" ["pairs"] 1 (z7a K Lad.enc):=⟨_,_,z9x Lad.noList_enc Lad.eqv_enc B F_q56,F_q56.kp,b_q56,m_q56⟩
 have g_q55:Got P w K mg base "is_whole" ["thing"] 1 (z2a K):=⟨_,_,zjh B F_q55,F_q55.kp,b_q55,m_q55⟩
 have g_q49:Got P w K mg base "is_many" ["thing"] 2 (z7x K []):=⟨_,_,zig B g_q55 F_q49,F_q49.kp,b_q49,m_q49⟩
 have g_q51:Got P w K mg base "is_rising" ["things"] 1 (z7i K):=⟨_,_,zi4 B F_q51,F_q51.kp,b_q51,m_q51⟩
 have g_q75:Got P w K mg base "run_of" ["text","at","signs"] 1 (z8e K):=⟨_,_,zj4 B F_q75,F_q75.kp,b_q75,m_q75⟩
 have g_q50:Got P w K mg base "is_name" ["thing"] 2 (z7s K):=⟨_,_,zii B L_LETTERS L_LONGEST_NAME g_q75 F_q50,F_q50.kp,b_q50,m_q50⟩
 have r_grove:∀ n,Got P w K mg base "is_tree" ["thing"] (n+3) (z1w K n)/\Got P w K mg base "is_grove" ["thing"] (n+3) (z1e K n)/\Got P w K mg base "are_grove_pairs" ["things"] (n+3) (z1q K true n):=by
  intro n
  induction n with
  | zero=>exact ⟨⟨_,_,zd3,F_q54.kp,b_q54,m_q54⟩,⟨_,_,zd9,F_q46.kp,b_q46,m_q46⟩,⟨_,_,zd0,F_q30.kp,b_q30,m_q30⟩⟩
  | succ n ih=>exact ⟨⟨_,_,zia B g_q50 ih.2.1 F_q54,F_q54.kp,b_q54,m_q54⟩,⟨_,_,zhf B g_q51 ih.2.2 F_q46,F_q46.kp,b_q46,m_q46⟩,⟨_,_,zjv B g_q49 ih.1 F_q30,F_q30.kp,b_q30,m_q30⟩⟩
 have g_q54:Got P w K mg base "is_tree" ["thing"] 84 (z1w K 81):=(r_grove 81).1
 have g_q46:Got P w K mg base "is_grove" ["thing"] 84 (z1e K 81):=(r_grove 81).2.1
 have gL_are_grove_pairs:Got P w K mg base "are_grove_pairs" ["things"] 63 (z1q K false 60):=⟨_,_,z4q B g_q49 (r_grove 59).1 F_q30,F_q30.kp,b_q30,m_q30⟩
 have g_q64:Got P w K mg base "number" ["many"] 1 (z7l K):=⟨_,_,zjd F_q64,F_q64.kp,b_q64,m_q64⟩
 have g_q48:Got P w K mg base "is_less" ["one","other"] 1 (z3e K):=⟨_,_,zk3 F_q48,F_q48.kp,b_q48,m_q48⟩
 have g_q69:Got P w K mg base "power" ["ladder"] 1 (z5m K):=⟨_,_,zis F_q69,F_q69.kp,b_q69,m_q69⟩
 have r_q67:∀ n,Got P w K mg base "pairs_within" ["grove"] (n) (z17 K n):=by
  intro n
  induction n with
  | zero=>exact ⟨_,_,zcs,F_q67.kp,b_q67,m_q67⟩
  | succ n ih=>exact ⟨_,_,zjw ih F_q67,F_q67.kp,b_q67,m_q67⟩
 have g_q67:=r_q67 70
 have g_q68:Got P w K mg base "parts_of" ["grove"] 71 (z4u K 70):=⟨_,_,zk8 B g_q67 F_q68,F_q68.kp,b_q68,m_q68⟩
 have r_q40:∀ n,Got P w K mg base "deep_of" ["grove"] (n) (z1m K n):=by
  intro n
  induction n with
  | zero=>exact ⟨_,_,zdm,F_q40.kp,b_q40,m_q40⟩
  | succ n ih=>exact ⟨_,_,zjg B ih F_q40,F_q40.kp,b_q40,m_q40⟩
 have g_q40:=r_q40 70
 have g_q82:GotX P w K mg base "tree_at" ["grove","place"] 2 (z2o K (He.ga K "NoPlace")):=⟨_,_,zi6 B O_NoPlace g_q55 F_q82,F_q82.kp,b_q82,m_q82⟩
 have g_q62:Got P w K mg base "many_at" ["pairs","thing"] 1 (z73 K):=⟨_,_,zif B F_q62,F_q62.kp,b_q62,m_q62⟩
 have g_q32:Got P w K mg base "behind" ["one","other"] 2 (z2f K):=⟨_,_,zim B g_q48 g_q62 F_q32,F_q32.kp,b_q32,m_q32⟩
 have g_q29:Got P w K mg base "all_together" ["some"] 2 (z7t K):=⟨_,_,zk9 B g_q56 F_q29,F_q29.kp,b_q29,m_q29⟩
 have g_q33:Got P w K mg base "both" ["one","other"] 3 (z9q K):=⟨_,_,zka g_q29 F_q33,F_q33.kp,b_q33,m_q33⟩
 have g_q27:Got P w K mg base "above" ["one","other"] 4 (z8m K):=⟨_,_,zi0 B g_q48 g_q64 g_q69 g_q32 g_q33 F_q27,F_q27.kp,b_q27,m_q27⟩
 have g_q76:Got P w K mg base "spread" ["one","other"] 3 (z7b K):=⟨_,_,zk1 g_q69 g_q32 F_q76,F_q76.kp,b_q76,m_q76⟩
 have g_q63:Got P w K mg base "many_of" ["ladder","many"] 1 (z2t K):=⟨_,_,zju B F_q63,F_q63.kp,b_q63,m_q63⟩
 have g_q56:Got P w K mg base "joined" ["pairs"] (1) (z59 K Gr.tEnc):=⟨_,_,zhp B F_q56,F_q56.kp,b_q56,m_q56⟩
 have g_q81:Got P w K mg base "together" ["one","other"] (2) (z21 K):=⟨_,_,zi8 B g_q56 F_q81,F_q81.kp,b_q81,m_q81⟩
 have g_q83:Got P w K mg base "without" ["grove","tree","many"] (1) (z5a K):=⟨_,_,zh9 B F_q83,F_q83.kp,b_q83,m_q83⟩
 have g_q80:Got P w K mg base "times" ["grove","many"] (1) (z88 K):=⟨_,_,ziq B F_q80,F_q80.kp,b_q80,m_q80⟩
 have g_q57:Got P w K mg base "kinds_within" ["grove"] (71) (z4j K):=⟨_,_,ziu B g_q67 F_q57,F_q57.kp,b_q57,m_q57⟩
 have O_NoKind:OwnI P w K mg base "NoKind" (He.ga K "NoKind") 1:=⟨m_NoKind,z94 xk_NoKind,n_NoKind,⟨_,_,h_NoKind.at_,beq_iff_eq.mp h_NoKind.fn,zko F_q5,b_q5⟩⟩
 have g_q1:GotM P w K mg base (He.ga K "Book") "names" ["self"] (1) (z2q K (He.ga K "Book")):=⟨_,_,zkh B T_Book F_q1,h_q1,b_q1,c_Book⟩
 have g_q36:GotX P w K mg base "check_kind" ["book","name"] (3) (z2l K (He.ga K "Book") (He.ga K "NoKind")):=⟨_,_,zk4 B O_NoKind g_q1 F_q36,F_q36.kp,b_q36,m_q36⟩
 have g_q2:z12 P w K mg base (He.ga K "Book") "rules" ["self","name"] (4) (z3z K (He.ga K "Book") (He.ga K "NoKind")):=⟨_,_,zky B T_Book g_q36 F_q2,h_q2,b_q2,c_Book⟩
 have g_q74:GotX P w K mg base "rules_from_nought" ["book","name"] (5) (z47 K (He.ga K "Book") (He.ga K "NoKind")):=⟨_,_,ziy B V_NO_GROVES W_NO_GROVES g_q2 F_q74,F_q74.kp,b_q74,m_q74⟩
 have g_q37:GotX P w K mg base "check_kinds" ["book","grove"] (72) (z1k K (He.ga K "Book")):=⟨_,_,zhg B g_q57 g_q36 F_q37,F_q37.kp,b_q37,m_q37⟩
 have g_q52:Got P w K mg base "is_rule" ["thing"] (85) (z3j K):=⟨_,_,ziv B L_MOST_RULE_PARTS L_MOST_MANY g_q46 g_q67 F_q52,F_q52.kp,b_q52,m_q52⟩
 have g_q47:Got P w K mg base "is_kind" ["thing"] (86) (z7c K):=⟨_,_,zjx B L_MOST_RULES g_q50 g_q52 F_q47,F_q47.kp,b_q47,m_q47⟩
 have g_q53:Got P w K mg base "is_rule_of" ["rule","names"] (71) (z26 K):=⟨_,_,zic B g_q67 F_q53,F_q53.kp,b_q53,m_q53⟩
 have g_q31:Got P w K mg base "are_kinds" ["things"] (87) (z4i K):=⟨_,_,zjr B L_MOST_KINDS g_q47 g_q53 F_q31,F_q31.kp,b_q31,m_q31⟩
 have g_q65:Got P w K mg base "number_of" ["grove","tree"] (1) (z8g K):=⟨_,_,zhr B F_q65,F_q65.kp,b_q65,m_q65⟩
 have r_q28:∀ n,Got P w K mg base "all_places" ["grove"] (n) (z3d K n):=by
  intro n
  induction n with
  | zero=>exact ⟨_,_,zd2,F_q28.kp,b_q28,m_q28⟩
  | succ n ih=>exact ⟨_,_,zj1 B ih F_q28,F_q28.kp,b_q28,m_q28⟩
 have g_q28:Got P w K mg base "all_places" ["grove"] (20) (z3d K 20):=r_q28 20
 have g_q73:GotX P w K mg base "rule_at" ["book","kind","rule"] (6) (z75 K (He.ga K "Book") (He.ga K "NoRule")):=⟨_,_,zj2 B O_NoRule g_q74 g_q55 F_q73,F_q73.kp,b_q73,m_q73⟩
 have g_q38:GotX P w K mg base "check_number" ["thing"] (2) (z70 K (He.ga K "NoNumber")):=⟨_,_,zhb B O_NoNumber g_q55 F_q38,F_q38.kp,b_q38,m_q38⟩
 have g_q3:z12 P w K mg base (He.ga K "Book") "spreads" ["self","name"] (4) (z25 K (He.ga K "Book") (He.ga K "NoKind")):=⟨_,_,zks B T_Book g_q36 F_q3,h_q3,b_q3,c_Book⟩
 have g_q44:Got P w K mg base "further_ones" ["book","kind","number"] (5) (zax K (He.ga K "Book")):=⟨_,_,zj8 B g_q3 F_q44,F_q44.kp,b_q44,m_q44⟩
 have r_q79:∀ n,Got P w K mg base "struck" ["book","grove","place","fresh","number"] (n+6) (z1v K (He.ga K "Book") n):=by
  intro n
  induction n with
  | zero=>exact ⟨_,_,zcp,F_q79.kp,b_q79,m_q79⟩
  | succ n ih=>exact ⟨_,_,zjo B g_q83 g_q81 ih g_q44 g_q65 F_q79,F_q79.kp,b_q79,m_q79⟩
 have g_q79:Got P w K mg base "struck" ["book","grove","place","fresh","number"] (64+6) (z1v K (He.ga K "Book") 64):=r_q79 64
 have g_q45:Got P w K mg base "grown" ["rule","number"] (3) (z8n K):=⟨_,_,zhm B g_q81 g_q80 F_q45,F_q45.kp,b_q45,m_q45⟩
 have g_q34:GotX P w K mg base "check_bound" ["grove"] (72) (z40 K (He.ga K "TooGreat")):=⟨_,_,zi9 B O_TooGreat L_MOST_PARTS_STANDING L_MOST_DEEP_STANDING g_q68 g_q40 F_q34,F_q34.kp,b_q34,m_q34⟩
 have g_q43:GotX P w K mg base "fallen" ["book","grove","place","rule","number"] (74) (z1c K (He.ga K "Book") (He.ga K "NoPlace") (He.ga K "NoRule") (He.ga K "NoNumber") (He.ga K "TooGreat")):=⟨_,_,zhd B O_NoPlace g_q37 g_q82 g_q73 g_q38 g_q79 g_q45 g_q34 F_q43,F_q43.kp,b_q43,m_q43⟩
 have g_q77:Got P w K mg base "steps_in" ["name","rule","word","grove"] (21) (z54 K):=⟨_,_,zj7 B g_q28 g_q82 F_q77,F_q77.kp,b_q77,m_q77⟩
 have g_q78:GotX P w K mg base "steps_of" ["book","name"] (22) (z57 K (He.ga K "Book") (He.ga K "NoKind")):=⟨_,_,zhn B g_q2 g_q77 F_q78,F_q78.kp,b_q78,m_q78⟩
 have g_q61:GotX P w K mg base "leads" ["book","name"] (23) (z6b K (He.ga K "Book") (He.ga K "NoKind")):=⟨_,_,zhe B g_q78 F_q61,F_q61.kp,b_q61,m_q61⟩
 have g_q60:Got P w K mg base "lead_into" ["led","ending"] (1) (z4g K):=⟨_,_,zil B F_q60,F_q60.kp,b_q60,m_q60⟩
 have g_q41:Got P w K mg base "ending_kinds" ["book"] (24) (z2w K (He.ga K "Book") (He.ga K "NoKind")):=⟨_,_,zi7 B g_q1 g_q61 g_q60 F_q41,F_q41.kp,b_q41,m_q41⟩
 have g_q42:Got P w K mg base "endless_kinds" ["book"] (25) (z52 K (He.ga K "Book") (He.ga K "NoKind")):=⟨_,_,zjj B g_q41 g_q1 F_q42,F_q42.kp,b_q42,m_q42⟩
 have O_Endless:OwnI P w K mg base "Endless" (He.ga K "Endless") 1:=⟨m_Endless,z94 xk_Endless,n_Endless,⟨_,_,h_Endless.at_,beq_iff_eq.mp h_Endless.fn,zkp F_q4,b_q4⟩⟩
 have g_q35:GotX P w K mg base "check_ends" ["book","grove"] (72) (z53 K (He.ga K "Book") (He.ga K "NoKind")):=⟨_,_,zjc B O_Endless g_q42 g_q57 F_q35,F_q35.kp,b_q35,m_q35⟩
 have g_q58:Got P w K mg base "laden" ["book","kind","own","inner"] (5) (z78 K (He.ga K "Book")):=⟨_,_,zj3 B g_q3 g_q76 g_q32 F_q58,F_q58.kp,b_q58,m_q58⟩
 have r_reck:∀ n,Got P w K mg base "reckoned" ["book","worths","grove"] (2*n+5) (z1o K (He.ga K "Book") n):=by
  intro n
  induction n with
  | zero=>exact ⟨_,_,zak,F_q71.kp,b_q71,m_q71⟩
  | succ n ih =>
   have h1:Got P w K mg base "reckoned_tree" ["book","worths","tree"] (2*n+6) (z2m K (He.ga K "Book") n):=⟨_,_,zc2 B g_q58 ih F_q72,F_q72.kp,b_q72,m_q72⟩
   exact ⟨_,_,zhq B g_q29 g_q63 h1 F_q71,F_q71.kp,b_q71,m_q71⟩
 have g_q71:Got P w K mg base "reckoned" ["book","worths","grove"] 45 (z1o K (He.ga K "Book") 20):=r_reck 20
 have g_q72:Got P w K mg base "reckoned_tree" ["book","worths","tree"] 46 (z2m K (He.ga K "Book") 20):=⟨_,_,zc2 (n:=20) B g_q58 g_q71 F_q72,F_q72.kp,b_q72,m_q72⟩
 have g_q39:Got P w K mg base "climb" ["book","worths","rule"] (46) (z69 K (He.ga K "Book")):=⟨_,_,zjz B g_q27 g_q71 F_q39,F_q39.kp,b_q39,m_q39⟩
 have g_q66:Got P w K mg base "own_ranks" ["book"] (47) (z3f K (He.ga K "Book") (He.ga K "NoKind")):=⟨_,_,zit B g_q41 g_q74 g_q39 F_q66,F_q66.kp,b_q66,m_q66⟩
 have g_q70:GotX P w K mg base "rank" ["book","grove"] (73) (z19 K (He.ga K "Book") (He.ga K "NoKind")):=⟨_,_,zhi B g_q37 g_q35 g_q71 g_q66 F_q70,F_q70.kp,b_q70,m_q70⟩
 have g_q15:Got P w K mg base "_law_draws" ["_law_script","_law_many_here"] (1) (z8l K):=⟨_,_,zik B F_q15,F_q15.kp,b_q15,m_q15⟩
 have g_q24:Got P w K mg base "_law_next" ["_law_draws_here"] (1) (z2k):=⟨_,_,zje B F_q24,F_q24.kp,b_q24,m_q24⟩
 have g_q23:Got P w K mg base "_law_names" ["_law_draws_here","_law_many_here"] (2) (z43 K):=⟨_,_,zie B g_q24 F_q23,F_q23.kp,b_q23,m_q23⟩
 have g_q22:Got P w K mg base "_law_many" ["_law_draws_here","_law_great"] (2) (z8c):=⟨_,_,zhk B g_q24 F_q22,F_q22.kp,b_q22,m_q22⟩
 have r_q17:∀ n,Got P w K mg base "_law_grove" ["_law_draws_here","_law_names_here","_law_room","_law_great"] (n+2) (z0v K n):=by
  intro n
  induction n with
  | zero=>exact ⟨_,_,zdd,F_q17.kp,b_q17,m_q17⟩
  | succ n ih=>exact ⟨_,_,zjm B g_q24 ih g_q22 F_q17,F_q17.kp,b_q17,m_q17⟩
 have g_q17:Got P w K mg base "_law_grove" ["_law_draws_here","_law_names_here","_law_room","_law_great"] (11+2) (z0v K 11):=r_q17 11
 have g_q19:Got P w K mg base "_law_kinds" ["_law_draws_here","_law_names_here","_law_rounds"] (15) (z7m K):=⟨_,_,zih B g_q24 g_q17 F_q19,F_q19.kp,b_q19,m_q19⟩
 have g_q0:GotI P w K mg base "Book" (He.ga K "Book") ["self","kinds"] (88) (z3c K (He.ga K "Book") (He.ga K "NoBook")):=⟨_,_,zlm B O_NoBook T_Book g_q31 F_q0,h_q0,b_q0,m_Book⟩
 have g_q13:Got P w K mg base "_law_book" ["_law_kinds_here"] (90) (z72 K (He.ga K "Book")):=⟨_,_,zj6 B g_q0 F_q13,F_q13.kp,b_q13,m_q13⟩
 have r_q21:∀ n,Got P w K mg base "_law_less" ["_law_one","_law_other"] (n) (z1x K n):=by
  intro n
  induction n with
  | zero=>exact ⟨_,_,zd1,F_q21.kp,b_q21,m_q21⟩
  | succ n ih=>exact ⟨_,_,zjn B ih F_q21,F_q21.kp,b_q21,m_q21⟩
 have g_q21:Got P w K mg base "_law_less" ["_law_one","_law_other"] (40) (z1x K 40):=r_q21 40
 have r_q20:∀ n,Got P w K mg base "_law_ladder" ["_law_found"] (n+40) (z1r K n):=by
  intro n
  induction n with
  | zero=>exact ⟨_,_,z4t,F_q20.kp,b_q20,m_q20⟩
  | succ n ih=>exact ⟨_,_,zho B ih g_q21 F_q20,F_q20.kp,b_q20,m_q20⟩
 have g_q20:Got P w K mg base "_law_ladder" ["_law_found"] (30+40) (z1r K 30):=r_q20 30
 have r_q18:∀ n,Got P w K mg base "_law_in" ["_law_grove_here"] (n) (z35 K n):=by
  intro n
  induction n with
  | zero=>exact ⟨_,_,zd6,F_q18.kp,b_q18,m_q18⟩
  | succ n ih=>exact ⟨_,_,zib B ih F_q18,F_q18.kp,b_q18,m_q18⟩
 have g_q18:Got P w K mg base "_law_in" ["_law_grove_here"] (20) (z35 K 20):=r_q18 20
 have r_q25:∀ n,Got P w K mg base "_law_places" ["_law_grove_here","_law_ahead"] (n) (z2b K n):=by
  intro n
  induction n with
  | zero=>exact ⟨_,_,zdh,F_q25.kp,b_q25,m_q25⟩
  | succ n ih=>exact ⟨_,_,ziw B ih F_q25,F_q25.kp,b_q25,m_q25⟩
 have g_q25:Got P w K mg base "_law_places" ["_law_grove_here","_law_ahead"] (70) (z2b K 70):=r_q25 70
 have r_q14:∀ n,Got P w K mg base "_law_deep" ["_law_grove_here"] (n) (z1t K n):=by
  intro n
  induction n with
  | zero=>exact ⟨_,_,zcl,F_q14.kp,b_q14,m_q14⟩
  | succ n ih=>exact ⟨_,_,zin B ih F_q14,F_q14.kp,b_q14,m_q14⟩
 have g_q14:Got P w K mg base "_law_deep" ["_law_grove_here"] (70) (z1t K 70):=r_q14 70
 have g_q16:Got P w K mg base "_law_fits" ["_law_grove_here"] (71) (z76 K):=⟨_,_,zha B g_q18 g_q14 F_q16,F_q16.kp,b_q16,m_q16⟩
 have g_q11:GotM P w K mg base (He.ga K "Play") "grove" ["self"] (1) (z1h K (He.ga K "Play")):=⟨_,_,zja B T_Play F_q11,h_q11,b_q11,c_Play⟩
 have g_q12:Got P w K mg base "_law_asked" ["_law_book_here","_law_play","_law_asked_here","_law_many_here"] (76) (z1d K (He.ga K "Play") (He.ga K "Book")):=⟨_,_,zjk B g_q70 g_q11 g_q20 g_q21 F_q12,F_q12.kp,b_q12,m_q12⟩
 have g_q8:z12 P w K mg base (He.ga K "Play") "back" ["self"] (3) (z44 K (He.ga K "Play") (He.ga K "NoFall")):=⟨_,_,zls B O_NoFall T_Play g_q11 F_q8,h_q8,b_q8,c_Play⟩
 have g_q10:GotM P w K mg base (He.ga K "Play") "falls" ["self"] (1) (z4w K (He.ga K "Play")):=⟨_,_,zhu B T_Play F_q10,h_q10,b_q10,c_Play⟩
 have g_q26:Got P w K mg base "_law_taken_back" ["_law_book_here","_law_play","_law_stood","_law_asked_here"] (78) (z4s K (He.ga K "Play") (He.ga K "Book")):=⟨_,_,zi1 B T g_q8 g_q11 g_q70 g_q10 F_q26,F_q26.kp,b_q26,m_q26⟩
 have g_q6:GotI P w K mg base "Play" (He.ga K "Play") ["self","book","grove"] (75) (z6z K (He.ga K "Play") (He.ga K "Book")):=⟨_,_,zlh B T_Play g_q37 F_q6,h_q6,b_q6,m_Play⟩
 have g_q9:z12 P w K mg base (He.ga K "Play") "fall" ["self","place","rule","number"] (76) (z2p K (He.ga K "Play") (He.ga K "Book") (He.ga K "NoPlace") (He.ga K "NoRule") (He.ga K "NoNumber") (He.ga K "TooGreat")):=⟨_,_,zld B T_Play g_q43 g_q11 F_q9,h_q9,b_q9,c_Play⟩
 have g_q7:z12 P w K mg base (He.ga K "Play") "again" ["self"] (3) (z8v K (He.ga K "Play") (He.ga K "NoFall")):=⟨_,_,zly B O_NoFall T_Play F_q7,h_q7,b_q7,c_Play⟩
 exact zji B g_q15 g_q23 g_q24 g_q19 g_q13 g_q17 g_q6 g_q70 g_q25 g_q43 g_q16 g_q9 g_q12 g_q20 g_q26 F_q59
end FT
open PySem PySem.W PySem.Calls PyProof.Rows
set_option maxRecDepth 100000 in
set_option maxHeartbeats 0 in
theorem PySem.Challenge.cw_felltimber_k95_whole_long_plays_sink_holds : PySem.Challenge.rw_felltimber_k95_whole_long_plays_sink.Holds := by
 w_on; o_law
 refine HandSHeadRun.head_any (r := OpenLaw.row PySem.Challenge.rw_felltimber_k95_whole_long_plays_sink) (q := view (OpenLaw.row PySem.Challenge.rw_felltimber_k95_whole_long_plays_sink).prog [104]) (H := FT.hk) (ob := FT.ob) (M := 9000) (loose := FT.loose) (d := HandSHeadRun.topDef (OpenLaw.row PySem.Challenge.rw_felltimber_k95_whole_long_plays_sink).prog 104) (kwd := []) FT.ob_eq
  (by kernel_rfl) (fun s => by kernel_rfl) FT.run (by kernel_rfl) (by kernel_rfl) (by kernel_rfl) (by rfl) (by first | assumption | decide +kernel) (by decide +kernel) ⟨rfl, rfl, rfl, rfl, rfl, by decide +kernel⟩ ?hw ?hc
 case hw => w_witness2
 case hc =>
  refine L2.walk_ofE (l := PySem.Challenge.rw_felltimber_k95_whole_long_plays_sink) (n := 63) (k := 120) (x := "_law_script") (CX := L2.CX0) rfl (by decide) (by kernel_rfl) ⟨rfl, by decide, by decide⟩ ?F (fun _ _ _ _ z => z)
  intro w mg fa h Y G hmg0
  obtain ⟨K, KX, c, cx⟩ := Y
  have hmg : mg ("law" : PySem.Str) = some (.ref fa) := by
   have e : (HandSHeadRun.topDef (OpenLaw.row PySem.Challenge.rw_felltimber_k95_whole_long_plays_sink).prog 104).name = ("law" : PySem.Str) := by kernel_rfl
   rw [<- e]
   exact hmg0
  obtain ⟨fd, hb, hF⟩ := FT.facts (P := (PySem.Challenge.rw_felltimber_k95_whole_long_plays_sink).prog) (w := w) KX G hmg c cx
  exact ⟨K, fd, FT.spLaw K, KX, hb, fun H a ns hl _ hS => ⟨a, ns, rfl, hS, hl, fun _ => rfl⟩, hF⟩
