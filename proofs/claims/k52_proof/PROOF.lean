import PyProof.Rows.All
import Wide.All
import OpenK.AllK
import Wide.FinOn
import KE.KStateDown
import KE.SortData
import HandS.ForMost
import HandS.More
import HandS.Walk
import HandS.Zip
import HandS.Style
import HandS.TupAny
import HandS.IsInst
import HandS.Wide
import HandS.Flow
import HandS.WordsExc
import HandS.Defaults
import HandS.Head0
import HandS.Head1
import HandS.Head2
import HandS.HeadEnd
import HandS.HeadHook1
import HandS.HeadHook2
import HandS.HeadNt
import KE.DataCmp
import HandS.SortKw
import PyProof.TupleOfSeq
import HandS.NoneIn
import HandS.ExcIs
import HandS.RevRange
import KE.GoesEnum
import KE.DataAny
import HandS.Conv
import HandS.SortInts
import HandS.FStr
import HandS.Strs
import HandS.TupSets
import HandS.DictComp
import HandS.ExcInit
import HandS.SetKeys
import HandS.SetTxt0
import HandS.SetBool
import HandS.SetFor
import KE.GoesEnumKw
import PyProof.Rows.CallKwBuiltin
import KE.DatumOrd
import HandS.ExcField
import HandS.HotCalls
import HandS.Replace
import HandS.TupLe
import KE.DataMinMax
import PyProof.StrBlock2
import HandS.WordsDict
import HandS.TupMul
import HandS.TryOnly
import PyProof.MaxThree
import PyProof.NeKinds
import HandS.Deep
import HandS.Dict
import KE.GoesMore
import PyProof.EqKinds
import HandS.Hot
import HandS.ExcCtx
import PySem.Challenge.RW_felltimber_k52_papers_of_falls
set_option Elab.async false
set_option linter.all false
set_option maxRecDepth 100000
set_option maxHeartbeats 16000000
namespace FT
open PySem PySem.W PySem.Spec PyProof.Rows L2
abbrev ah:Str:="grove"
abbrev ai:Str:="_law_pot_here"
abbrev ao:Str:="_law_grove"
abbrev aq:Str:="book"
abbrev au:Str:="_law_other"
abbrev ay:Str:="_law_book"
abbrev aA:Str:="thing"
abbrev aD:Str:="_law_one"
abbrev aI:Str:="other"
abbrev aJ:Str:="_law_place"
abbrev aM:Str:="_law_many"
abbrev aN:Str:="number"
abbrev aO:Str:="name"
abbrev aW:Str:="_law_drawn_grove"
abbrev aZ:Str:="rule"
abbrev a5:Str:="_law_same_here"
abbrev a6:Str:="_law_number"
abbrev a7:Str:="are_grove_pairs"
abbrev a8:Str:="self"
abbrev a9:Str:="many"
abbrev bf:Str:="pairs_within"
abbrev bh:Str:="_law_made"
abbrev bp:Str:="one"
abbrev bq:Str:="place"
abbrev br:Str:="_law_known"
abbrev bw:Str:="rules_from_nought"
abbrev bx:Str:="_law_names_here"
abbrev bD:Str:="_law_grove_of"
abbrev bE:Str:="_law_found"
abbrev bF:Str:="_law_rule"
abbrev bJ:Str:="_law_script"
abbrev bL:Str:="_law_less"
abbrev bN:Str:="tree"
abbrev bO:Str:="worths"
abbrev bP:Str:="_law_drawn_place"
abbrev bU:Str:="_law_take"
abbrev bV:Str:="_law_name"
abbrev b6:Str:="_law_drawn_book"
abbrev b7:Str:="reckoned_tree"
abbrev cj:Str:="all_places"
abbrev cw:Str:="_law_rank"
abbrev cA:Str:="things"
abbrev cB:Str:="kinds_within"
abbrev cC:Str:="ending_kinds"
abbrev cE:Str:="all_together"
abbrev cF:Str:="_law_refusal"
abbrev cM:Str:="endless_kinds"
abbrev cN:Str:="check_kind"
abbrev cO:Str:="_law_parts"
abbrev cP:Str:="_law_pairs"
abbrev cQ:Str:="_law_fall"
abbrev cS:Str:="_law_drop"
abbrev cU:Str:="reckoned"
abbrev cV:Str:="_law_behind"
abbrev c7:Str:="further_ones"
abbrev c9:Str:="check_number"
abbrev df:Str:="_law_refused"
abbrev dj:Str:="_law_kind_at"
abbrev dk:Str:="_law_endless"
abbrev dN:Str:="is_whole"
abbrev dO:Str:="is_grove"
abbrev dP:Str:="fall_paper"
abbrev dQ:Str:="_law_great"
abbrev d3:Str:="check_kinds"
abbrev d4:Str:="check_bound"
abbrev d5:Str:="alike_ahead"
abbrev eE:Str:="pairs"
abbrev eF:Str:="names"
abbrev eV:Str:="ladder"
abbrev eW:Str:="is_rising"
abbrev eX:Str:="_law_both"
abbrev fe:Str:="is_rule_of"
abbrev fh:Str:="is_less"
abbrev fj:Str:="check_ends"
abbrev fm:Str:="_law_names"
abbrev fq:Str:="_law_kinds"
abbrev ft:Str:="_law_above"
abbrev fX:Str:="together"
abbrev fY:Str:="_law_own"
abbrev gu:Str:="own_ranks"
abbrev gy:Str:="number_of"
abbrev gz:Str:="lead_into"
abbrev gA:Str:="is_tree"
abbrev gB:Str:="is_many"
abbrev gD:Str:="deep_of"
abbrev gE:Str:="are_kinds"
abbrev gF:Str:="_law_said"
abbrev gV:Str:="struck"
abbrev gW:Str:="joined"
abbrev ir:Str:="tree_at"
abbrev iu:Str:="steps_of"
abbrev iw:Str:="steps_in"
abbrev iy:Str:="parts_of"
abbrev iz:Str:="is_name"
abbrev iA:Str:="_law_pot"
abbrev iB:Str:="_law_due"
abbrev iZ:Str:="behind"
abbrev j6:Str:="without"
abbrev j7:Str:="rule_at"
abbrev j8:Str:="many_of"
abbrev j9:Str:="many_at"
abbrev kc:Str:="is_rule"
abbrev kg:Str:="is_kind"
abbrev lI:Str:="_law_ring"
abbrev lS:Str:="_law_turned"
abbrev nI:Str:="spread"
abbrev nJ:Str:="run_of"
abbrev nK:Str:="fallen"
abbrev nO:Str:="ending"
abbrev pC:Str:="power"
abbrev pE:Str:="fresh"
abbrev pF:Str:="drop"
abbrev tA:Str:="_law_most"
abbrev uP:Str:="times"
abbrev uQ:Str:="leads"
abbrev uR:Str:="laden"
abbrev uS:Str:="grown"
abbrev uT:Str:="climb"
abbrev uU:Str:="above"
abbrev Ag:Str:="at"
abbrev CI:Str:="both"
abbrev NH:Str:="inner"
theorem Z0:0<=sizeLine:=by decide
theorem lH:1<=sizeLine:=by decide
theorem dY:2<=sizeLine:=by decide
theorem Gn:3<=sizeLine:=by decide
theorem uO:4<=sizeLine:=by decide
theorem mi {α:Type} {l:List α} {a:α} (n:Nat) (h:l[n]?=some a:=by exact rfl):a ∈ l:=List.mem_of_getElem? h
theorem Hm {a b:Nat} {A:PySem.Around} (h:Room a A) (l:b<=a:=by omega):Room b A:=h.mono l
universe u
abbrev Ka:=@pe_tup
abbrev Ke:=@wpAny_bind
abbrev Kf:=@ps_expr
abbrev Ki:=@PySem.F.plainAttrs_list
abbrev Kk:=@pw_or
abbrev Kl:=@pw_and
abbrev Kn:=@pe_bm
abbrev Ko:=@op_add
theorem Kp {α:Type} {l:List α} {i:Nat} (h:i<l.length):l[i]?=some l[i]:=List.getElem?_eq_getElem h
theorem Kq {α:Type} {l:List α} {i:Nat} {a:α} (h:l[i]?=some a):∃ h:i<l.length,l[i]=a:=List.getElem?_eq_some_iff.mp h
theorem Kr {α β:Type} {f:α->β} {o:Option α} {b:β} (h:o.map f=some b):∃ a,o=some a/\f a=b:=Option.map_eq_some_iff.mp h
theorem Ks {p:Prop} [Decidable p] (h:decide p=true):p:=of_decide_eq_true h
theorem Ku {α β:Type} {f:α->β} {b:β} {l:List α} (h:∃ a,a ∈ l/\f a=b):b ∈ l.map f:=List.mem_map.mpr h
theorem Kv {α:Type} {a b:α} (h:a=b):a ∈ [b]:=List.mem_singleton.mpr h
theorem Kw (a:Int):a<=a:=Int.le_refl a
theorem Kx {α:Type} {i:Nat} {l:List α}:(l.take i).length=min i l.length:=List.length_take ..
theorem Ky {α β:Type} {f:α->β} {a:α} {l:List α}:(a::l).map f=f a::l.map f:=List.map_cons ..
theorem Kz {α:Type} (l:List α):l++[]=l:=List.append_nil l
theorem Ja {α:Sort u} {a:α}:a=a:=rfl
abbrev Qa:=@pa_cons
abbrev Qb:=@pa_nil
abbrev Qc:=@pss_cons
abbrev Qe:=@pss_one
abbrev Qg:=@pe_int
abbrev Qi:=@pgs_cons
abbrev Qj:=@ps_ret
abbrev Ql:=@ix_tup
abbrev Qm:=@pe_ix
abbrev Qn:=@PySem.W.Frag
abbrev Qo:=@pt_val
abbrev Qp:=@pt_not
abbrev Qr:=@ps_if
abbrev Qs:=@pe_callB
theorem Qt {H:Hp} {a:Addr} {o:HO}:upd H a o a=some o:=upd_same
theorem Qu {α:Type} {l:List α} {n:Nat} {a:α} (h:l[n]?=some a):a ∈ l:=List.mem_of_getElem? h
theorem Qv {α:Type} {a b:α} {l:List α} (h:a ∈ b::l):a=b\/a ∈ l:=List.mem_cons.mp h
theorem Qw {α:Type} {a:α} {l k:List α} (h:a ∈ l++k):a ∈ l\/a ∈ k:=List.mem_append.mp h
theorem Qx {α β:Type} {f:α->β} {b:β} {l:List α} (h:b ∈ l.map f):∃ a,a ∈ l/\f a=b:=List.mem_map.mp h
theorem Qy {α:Type} {a b:α} (h:a ∈ [b]):a=b:=List.mem_singleton.mp h
theorem Qz {p:Prop} [Decidable p] (h:¬p):decide p=false:=decide_eq_false h
theorem Ya {p:Prop} [Decidable p] (h:p):decide p=true:=decide_eq_true h
theorem Yb {a b c:Nat} (h:a<=b) (k:b<=c):a<=c:=Nat.le_trans h k
theorem Yc (a:Nat):a<=a:=Nat.le_refl a
theorem Yd {α:Type} {a b:α} (h:some a=some b):a=b:=Option.some.inj h
theorem Ye {α β:Type} {f:α->β} {l:List α}:(l.map f).length=l.length:=List.length_map ..
theorem Yf {α:Type} {l k:List α}:(l++k).length=l.length+k.length:=List.length_append ..
theorem Yg {α:Type} {l:List α} {i:Nat}:l.take (i+1)=l.take i++l[i]?.toList:=List.take_add_one ..
theorem Yh {α:Type} {l:List α}:l.take l.length=l:=List.take_length ..
theorem Yi {α:Type} {a:α}:[a].length=1:=List.length_singleton ..
theorem Yj {α β:Type} {f:α->β} {l k:List α}:(l++k).map f=l.map f++k.map f:=List.map_append ..
theorem Yk {α:Type} {a:α} {l:List α}:(a::l).length=l.length+1:=List.length_cons ..
variable {n k i kk:Nat} {H:Hp} {ns cX kinds:List Str} {v x:V} {K:Qn} {m C B D:Int} {a p d f q:Addr} {xs:List V} {P:Program} {z:Str} {mg:Str->Option Value} {e:Expr} {elts:List Expr} {xZ:Pos} {base h:Heap} {Q:VK} {s:Shared} {bad:List Addr}
theorem bt {A:Around} {e:Env} (hr:Room k (A.deeper e)):A.units+3+200 < cLine:=by
 have:=hr.un;have h3:(A.deeper e).units=A.units+3:=rfl;omega
theorem u1 {A:Around} {e:Env} (h:Room k (A.deeper e)):A.units+3+1<cLine:=by have:=bt h; omega
theorem ig {A:Around} {e:Env} (h:Room k (A.deeper e)):A.units+3+64<cLine:=by have:=bt h; omega
theorem aP {α:Type} {a:α}:¬ a ∈ ([]:List α):=List.not_mem_nil
theorem bM {α:Type} {a:α} {l:List α}:a ∈ a::l:=List.mem_cons_self
theorem bR {α:Type} (y:α) {a:α} {l:List α} (h:a ∈ l):a ∈ y::l:=List.mem_cons_of_mem y h
theorem jA {α:Type} {a:α} {l:List α} (k:List α) (h:a ∈ l):a ∈ l++k:=List.mem_append_left k h
theorem kP {α:Type} {a:α} {l:List α} (k:List α) (h:a ∈ l):a ∈ k++l:=List.mem_append_right k h
theorem vW (h:n<=10000000):n < sizeLine:=Nat.lt_of_le_of_lt h (by decide)
structure SB (ps:List Addr) (H H':Hp):Prop where
 keep:∀ b o,H b=some o->b ∉ ps->H' b=some o
 tups:∀ b xs,H b=some (.tup xs)->H' b=some (.tup xs)
 frzs:∀ b o u,H b=some (.frz o u)->H' b=some (.frz o u)
 kU:∀ b,H' b=none->H b=none
section
variable {K:Qn} {ps qs:List Addr} {H H' H1 H2:Hp} {a p:Addr} {xs:List V}
theorem SB.refl:SB ps H H:=⟨fun _ _ h _=>h,fun _ _ h=>h,fun _ _ _ h=>h,fun _ h=>h⟩
theorem SB.trans (a:SB ps H H1) (b:SB ps H1 H2):SB ps H H2 :=
 ⟨fun c o h n=>b.keep c o (a.keep c o h n) n,fun c x h=>b.tups c x (a.tups c x h),fun c o u h=>b.frzs c o u (a.frzs c o u h),fun c h=>a.kU c (b.kU c h)⟩
theorem SB.mono (h:SB ps H H') (hs:∀ b ∈ ps,b ∈ qs):SB qs H H':=⟨fun c o e n=>h.keep c o e fun z=>n (hs c z),h.tups,h.frzs,h.kU⟩
theorem SB.nil (h:SB [] H H'):SB ps H H':=h.mono fun _ z=>absurd z (aP)
theorem SB.new (h:H p=none) (o:HO):SB ps H (upd H p o):=by
 refine ⟨fun b u e _=>?_,fun b u e=>?_,fun b v u e=>?_,fun b e=>?_⟩
 ·rw [upd_ne (ne_of_none e h)]; exact e
 ·rw [upd_ne (ne_of_none e h)]; exact e
 ·rw [upd_ne (ne_of_none e h)]; exact e
 ·by_cases q:b=p
  ·subst q; exact h
  ·rw [upd_ne q] at e; exact e
theorem Jb {H:Hp} {p:Addr} (h:H p=none) (o:HO):SB [] H (upd H p o):=SB.new h o
theorem eZ {ps:List Addr} {H:Hp} {a:Addr} {o:HO} (_:SB ps H (upd H a o)):upd H a o a=some o:=upd_same
theorem iV {K:PySem.W.Frag} {ps:List Addr} {H:Hp} {a:Addr} {l:List V} (_:SB ps H (upd H a (.tup l))):SqT K (upd H a (.tup l)) a l:=SqT.of upd_same
theorem SB.set (h:H p=some (.lst xs)) (hp:p ∈ ps) (o:HO):SB ps H (upd H p o):=by
 refine ⟨fun b u e n=>?_,fun b u e=>?_,fun b v u e=>?_,fun b e=>?_⟩
 ·rw [upd_ne (fun (z:b=p)=>n (by rw [z]; exact hp))]; exact e
 ·rw [upd_ne (fun (z:b=p)=>by subst z; rw [h] at e; cases e)]; exact e
 ·rw [upd_ne (fun (z:b=p)=>by subst z; rw [h] at e; cases e)]; exact e
 ·by_cases q:b=p
  ·subst q; rw [Qt] at e; cases e
  ·rw [upd_ne q] at e; exact e
theorem SB.drop (h:SB (p::ps) H H') (n:H p=none):SB ps H H':=by
 refine ⟨fun b o e m=>h.keep b o e fun z=>?_,h.tups,h.frzs,h.kU⟩;rcases Qv z with z | z
 ·subst z; rw [n] at e; cases e
 ·exact m z
theorem SB.aL (e:SB ps H H') (h:SqT K H a xs):SqT K H' a xs:=by
 rcases h with (h | ⟨o,h⟩) | h
 ·exact .inl (.inl (e.tups _ _ h))
 ·exact .inl (.inr ⟨o,e.frzs _ _ _ h⟩)
 ·exact .inr h
theorem SB.fO (e:SB ps H H') (n:a ∉ ps) (h:SqL K H a xs):SqL K H' a xs:=by
 rcases h with (h | ⟨o,h⟩) | h
 ·exact .inl (.inl (e.keep _ _ h n))
 ·exact .inl (.inr ⟨o,e.frzs _ _ _ h⟩)
 ·exact .inr h
end
inductive Lad where
 | nil
 | cons (e:Lad) (m:Int) (r:Lad)
 deriving DecidableEq
namespace Lad
def encs:Lad->List PyData
 | .nil=>[]
 | .cons e m r=>.tuple [.tuple e.encs,.int m]::r.encs
def enc (l:Lad):PyData:=.tuple l.encs
def parts:Lad->Nat
 | .nil=>0
 | .cons e _ r=>1+e.parts+r.parts
def deep:Lad->Nat
 | .nil=>0
 | .cons e _ r=>max (1+e.deep) r.deep
def len:Lad->Nat
 | .nil=>0
 | .cons _ _ r=>1+r.len
theorem lx:∀ l:Lad,l.encs.length=l.len
 | .nil=>rfl
 | .cons e m r=>by show r.encs.length+1=1+r.len; rw [lx r,Nat.add_comm]
theorem aF:∀ l:Lad,l.len<=l.parts
 | .nil=>Yc _
 | .cons e m r=>by have:=aF r; show 1+r.len<=1+e.parts+r.parts; omega
theorem jq:∀ l k:Lad,alikeAll l.encs k.encs=true
 | .nil,_=>by simp [encs,alikeAll]
 | .cons e m r,.nil=>by simp [encs,alikeAll]
 | .cons e m r,.cons e' m' r'=>by
  have h1:=jq e e';have h2:=jq r r';simp [encs,alikeAll,alike,h1,h2]
theorem dH (l k:Lad):alike l.enc k.enc=true:=by
 show alike (.tuple l.encs) (.tuple k.encs)=true;rw [alike]; exact jq l k
theorem cq:∀ l:Lad,PyData.depthAll l.encs<=2*l.deep
 | .nil=>by simp [encs,PyData.depthAll,deep]
 | .cons e m r=>by
  have h1:=cq e;have h2:=cq r;simp only [encs,PyData.depthAll,PyData.depth,deep];omega
theorem cz (l:Lad):l.enc.depth<=2*l.deep+1:=by
 have:=cq l;simp only [enc,PyData.depth];omega
theorem y8 (l:Lad):l.enc ≠ .none:=fun h=>nomatch h
end Lad
def IU (K:Qn):R2:=fun x y H Q=>∃ d e,Dp K H x d/\Dp K H y e/\alike d e=true/\d ≠ .none/\d.depth<=100/\Q (.bl (dataLt d e)) H
section
variable {X:Cx}
theorem VB (hu:X.A.units+100 < cLine):OpR X (compareOp .Lt) (IU X.K):=by
 intro pins s σ H x y v u Q I rx ry h;obtain ⟨d,e,hd,he,al,hn,hdp,q⟩:=h;obtain ⟨as,r1⟩:=Dp.reads I d x v hd rx;obtain ⟨bs,r2⟩:=Dp.reads I e y u he ry;exact rcLt_alike d e X.A s v u as bs r1 r2 al hn (by have:=Nat.min_le_left d.depth e.depth; omega) X.prog X.w X.xe _ ⟨.bl _,H,I,rfl,q⟩
end
mutual
def noList:PyData->Bool
 | .list _=>false
 | .dict _=>false
 | .tuple ds=>jw ds
 | _=>true
def jw:List PyData->Bool
 | []=>true
 | d::ds=>noList d&&jw ds
end
section
variable {K:Qn} {ps:List Addr} {H H':Hp}
mutual
theorem cI (e:SB ps H H'):∀ (d:PyData) (v:V),noList d=true->Dp K H v d->Dp K H' v d
 | .none,_,_,h=>by cases h; exact .non
 | .bool b,_,_,h=>by cases h; exact .bl b
 | .int i,_,_,h=>by cases h; exact .int i
 | .str x,_,_,h=>by cases h; exact .str x
 | .list ds,_,n,_=>by simp [noList] at n
 | .dict ds,_,n,_=>by simp [noList] at n
 | .tuple ds,_,n,h=>by
  cases h with
  | tup hs ha=>exact .tup (e.aL hs) (Qq e ds _ (by simpa [noList] using n) ha)
theorem Qq (e:SB ps H H'):∀ (ds:List PyData) (vs:List V),jw ds=true->DpAll K H vs ds->DpAll K H' vs ds
 | [],_,_,h=>by cases h; exact .nil
 | d::ds,_,n,h=>by
  cases h with
  | cons h1 h2 =>
   simp [jw] at n;exact .cons (cI e d _ n.1 h1) (Qq e ds _ n.2 h2)
end
end
theorem Lad.cn:∀ l:Lad,jw l.encs=true
 | .nil=>by simp [Lad.encs,jw]
 | .cons e m r=>by simp [Lad.encs,jw,noList,Lad.cn e,Lad.cn r]
theorem Lad.aj (l:Lad):noList l.enc=true:=by simp [Lad.enc,noList,Lad.cn l]
def LA (K:Qn) (H:Hp) (v:V) (l:Lad):Prop:=Dp K H v l.enc
section
variable {K:Qn} {ps:List Addr} {H H':Hp} {v:V} {l:Lad}
theorem LA.sb (h:LA K H v l) (e:SB ps H H'):LA K H' v l:=cI e _ _ l.aj h
theorem LA.tup (h:LA K H v l):∃ a xs,v=.ref a/\SqT K H a xs/\DpAll K H xs l.encs:=by
 have h':Dp K H v (.tuple l.encs):=h;cases h' with
 | tup hs ha=>exact ⟨_,_,Ja,hs,ha⟩
theorem DpAll.length:∀ {vs:List V} {ds:List PyData},DpAll K H vs ds->vs.length=ds.length
 | _,_,.nil=>rfl
 | _,_,.cons _ t=>by rw [Yk,Yk,DpAll.length t]
theorem DpAll.get:∀ {vs:List V} {ds:List PyData} {i:Nat} {v:V},DpAll K H vs ds->vs[i]?=some v->∃ d,ds[i]?=some d/\Dp K H v d
 | _,_,_,_,.nil,e=>by simp at e
 | _,_,0,_,.cons h t,e=>by simp at e; subst e; exact ⟨_,Ja,h⟩
 | _,_,i+1,v,.cons h t,e=>by
  obtain ⟨d,h1,h2⟩:=DpAll.get (i:=i) (v:=v) t (by simpa using e);exact ⟨d,by simpa using h1,h2⟩
end
structure BI (mg:Str->Option Value):Prop where
 len:mg "len"=none
 isinstance:mg "isinstance"=none
 int:mg "int"=none
 bool:mg "bool"=none
 str:mg "str"=none
 tuple:mg "tuple"=none
 list:mg "list"=none
 all:mg "all"=none
 zip:mg "zip"=none
 sum:mg "sum"=none
 max:mg "max"=none
 range:mg "range"=none
 enumerate:mg "enumerate"=none
 abs:mg "abs"=none
 sorted:mg "sorted"=none
 min:mg "min"=none
 reversed:mg "reversed"=none
 any:mg "any"=none
 set:mg "set"=none
 dict:mg "dict"=none
 repr:mg "repr"=none
structure Got (P:Program) (w:World) (K:Qn) (mg:Str->Option Value) (base:Heap) (x:Str) (ps:List Str) (k:Nat) (sp:Sp):Prop where
 ex:∃ (f:Addr) (fd:FuncData),FnOk P w K mg base CX0 k f fd ps sp/\PySem.W.keepIn K (.ref f)=true/\Binds K fd ps []/\mg x=some (.ref f)
section
variable {X:Cx} {x:Str} {ps:List Str} {k:Nat} {sp:Sp} {e:Expr} {es:List Expr} {t:TA} {p pos:Pos}
theorem aT (G:Got X.prog X.w X.K X.mg X.base x ps k sp) (hr:Room k X.A) (hg:Gl X x) (ha:PA X (e::es) t) (yS:(x == ("__debug__":Str))=false:=by decide) (he:starEach (e::es) X.env=(false,eval e X.env)::starEach es X.env:=by rfl) (fy:(backTo pos (starEach es X.env)).any (·.1)=false:=by rfl) :
  PE X (.Call (.Name x p) (e::es) [] pos) (tCall sp [] E0 t):=by
 obtain ⟨f,fd,h1,h2,h3,h4⟩:=G.ex;exact pe_call h1 hr hg h4 h2 h3 .nil pass0 ha yS he fy
end
def Vb (K:Qn):List V->Hp->VK->Prop:=fun xs H Q=>∃ (x:V) (T n:String) (b:Bool),xs=[x,.ty T]/\TyX K H x (.type n)/\kitB n T=some b/\Q (.bl b) H
section
variable {X:Cx}
theorem zbp:CallR X (.builtin "isinstance") (Vb X.K):=by
 intro pins s σ H xs us Q I r h;obtain ⟨x,T,n,b,rfl,ty,e,q⟩:=h;exact call_isi pins s σ H _ us Q I r ⟨x,.ty T,.type n,.type T,b,Ja,.ty T,ty,kit_ty e,q⟩
theorem U9 {T:Str} {T':String} {pos:Pos} (hg:Gl X T) (hm:X.mg T=none) (hv:bootBuiltins T=some (.type T')) (hn:T ≠ "__name__":=by decide) (hd:(T == ("__debug__":Str))=false:=by decide):PE X (.Name T pos) (tC (.ty T')):=pe_bltn hg hm hv rfl hn hd
theorem tF {te:TE} {T:Str} {T':String} {p p2 pos:Pos} (B:BI X.mg) (he:PE X e te) (hm:X.mg T=none) (hv:bootBuiltins T=some (.type T')) (hg:Gl X "isinstance":=by rfl) (Eb:Gl X T:=by rfl) (hn:T ≠ "__name__":=by decide) (hd:(T == ("__debug__":Str))=false:=by decide)
  (hs:starEach [e,.Name T p2] X.env=(false,eval e X.env)::starEach [.Name T p2] X.env:=by rfl) (fy:(backTo pos (starEach [.Name T p2] X.env)).any (·.1)=false:=by rfl) :
  PE X (.Call (.Name "isinstance" p) [e,.Name T p2] [] pos) (tCB (Vb X.K) (tCons te (tCons (tC (.ty T')) tNil))) :=
 Qs zbp hg B.isinstance boot_isinstance (Qa he (Qa (U9 Eb hm hv hn hd) Qb) hs) (by decide) (by decide) hs fy
end
mutual
inductive Th (K:Qn) (ps:List Addr) (H:Hp):V->PyData->Prop
 | int (i:Int):Th K ps H (.int i) (.int i)
 | tup {a:Addr} {xs:List V} {ds:List PyData}:SqT K H a xs->z5s K ps H xs ds->Th K ps H (.ref a) (.tuple ds)
 | oth {v:V} {n:String}:TyX K H v (.type n)->kitB n "tuple"=some false->(kitB n "int"=some false\/n="bool")->(∀ a,v=.ref a->a ∉ ps)->Th K ps H v .none
inductive z5s (K:Qn) (ps:List Addr) (H:Hp):List V->List PyData->Prop
 | nil:z5s K ps H [] []
 | cons {v:V} {vs:List V} {d:PyData} {ds:List PyData}:Th K ps H v d->z5s K ps H vs ds->z5s K ps H (v::vs) (d::ds)
end
def qS:PyData->Bool
 | .int i=>decide (1<=i)
 | _=>false
section
variable {K:Qn} {ps:List Addr} {H H':Hp}
theorem xy (h:SqT K H a xs):TyX K H (.ref a) (.type "tuple"):=by
 rcases h with (h | ⟨o,h⟩) | ⟨o,cf,n,h,c,_⟩
 ·exact .base (.tup h)
 ·exact .fTuple h
 ·exact .kTuple h c
theorem Th.whole {d:PyData} (h:Th K ps H v d):∃ n b1 b2,TyX K H v (.type n)/\kitB n "int"=some b1/\(b1=true->kitB n "bool"=some b2)/\((b1&&!b2)=true->∃ i,v=.int i/\d=.int i)/\((b1&&!b2)=false->qS d=false):=by
 cases h with
 | int i=>exact ⟨"int",true,false,.base (.int i),by decide +kernel,fun _=>by decide +kernel,fun _=>⟨i,rfl,rfl⟩,fun z=>(nomatch z)⟩
 | tup hs ha=>exact ⟨"tuple",false,false,(xy hs),by decide +kernel,fun z=>(nomatch z),fun z=>(nomatch z),fun _=>rfl⟩
 | @oth v n ty k1 k2 _ =>
  rcases k2 with k2 | k2
  ·exact ⟨n,false,false,ty,k2,fun z=>(nomatch z),fun z=>(nomatch z),fun _=>rfl⟩
  ·subst k2;exact ⟨"bool",true,true,ty,by decide +kernel,fun _=>by decide +kernel,fun z=>(nomatch z),fun _=>rfl⟩
theorem CP {n:String} (e:SB ps H H') (hn:∀ a,v=.ref a->a ∉ ps) (h:TyX K H v (.type n)):TyX K H' v (.type n):=by
 cases h with
 | base h =>
  cases h with
  | non=>exact .base .non
  | bl x=>exact .base (.bl x)
  | int i=>exact .base (.int i)
  | str x=>exact .base (.str x)
  | flt x=>exact .base (.flt x)
  | lst h=>exact .base (.lst (e.keep _ _ h (hn _ rfl)))
  | frz h=>exact .base (.frz (e.frzs _ _ _ h))
  | tup h=>exact .base (.tup (e.tups _ _ h))
  | dK h=>exact .base (.dK (e.keep _ _ h (hn _ rfl)))
  | dT h=>exact .base (.dT (e.keep _ _ h (hn _ rfl)))
 | byt b=>exact .byt b
 | set h=>exact .set (e.keep _ _ h (hn _ rfl))
 | kList h c=>exact .kList h c
 | kTuple h c=>exact .kTuple h c
 | kDict h c=>exact .kDict h c
 | fTuple h=>exact .fTuple (e.frzs _ _ _ h)
 | fDict h=>exact .fDict (e.frzs _ _ _ h)
end
inductive Bears (K:Qn) (H:Hp) {β:Type} (enc:β->PyData):List V->List β->Prop
 | nil:Bears K H enc [] []
 | cons {v:V} {vs:List V} {b:β} {bs:List β}:Dp K H v (enc b)->Bears K H enc vs bs->Bears K H enc (v::vs) (b::bs)
section
variable {K:Qn} {H H':Hp} {β:Type} {enc:β->PyData} {ps:List Addr}
theorem Bears.length:∀ {vs:List V} {bs:List β},Bears K H enc vs bs->vs.length=bs.length
 | _,_,.nil=>rfl
 | _,_,.cons _ t=>by rw [Yk,Yk,Bears.length t]
theorem Bears.dp:∀ {vs:List V} {bs:List β},Bears K H enc vs bs->DpAll K H vs (bs.map enc)
 | _,_,.nil=>.nil
 | _,_,.cons h t=>.cons h (Bears.dp t)
theorem Bears.of:∀ {vs:List V} {bs:List β},DpAll K H vs (bs.map enc)->Bears K H enc vs bs
 | [],[],_=>.nil
 | _::_,[],h=>by cases h
 | [],_::_,h=>by cases h
 | v::vs,b::bs,h=>by
  cases h with
  | cons h1 h2=>exact .cons h1 (Bears.of h2)
theorem Bears.get:∀ {vs:List V} {bs:List β} {i:Nat} {v:V},Bears K H enc vs bs->vs[i]?=some v->∃ b,bs[i]?=some b/\Dp K H v (enc b)
 | _,_,_,_,.nil,e=>by simp at e
 | _,_,0,_,.cons h t,e=>by simp at e; subst e; exact ⟨_,Ja,h⟩
 | _,_,i+1,v,.cons h t,e=>by
  obtain ⟨d,h1,h2⟩:=Bears.get (i:=i) (v:=v) t (by simpa using e);exact ⟨d,by simpa using h1,h2⟩
theorem Bears.append:∀ {xs ys:List V} {bs cs:List β},Bears K H enc xs bs->Bears K H enc ys cs->Bears K H enc (xs++ys) (bs++cs)
 | _,_,_,_,.nil,h=>h
 | _,_,_,_,.cons a b,h=>.cons a (Bears.append b h)
theorem Bears.sb (e:SB ps H H') (hn:∀ b,noList (enc b)=true):∀ {xs:List V} {bs:List β},Bears K H enc xs bs->Bears K H' enc xs bs
 | _,_,.nil=>.nil
 | _,_,.cons a b=>.cons (cI e _ _ (hn _) a) (Bears.sb e hn b)
theorem Bears.take (n:Nat):∀ {xs:List V} {bs:List β},Bears K H enc xs bs->Bears K H enc (xs.take n) (bs.take n):=by
 induction n with
 | zero=>intro xs bs h; rw [List.take_zero,List.take_zero]; exact .nil
 | succ n ih =>
  intro xs bs h;cases h with
  | nil=>exact .nil
  | cons a b=>exact .cons a (ih b)
theorem Bears.drop (n:Nat):∀ {xs:List V} {bs:List β},Bears K H enc xs bs->Bears K H enc (xs.drop n) (bs.drop n):=by
 induction n with
 | zero=>intro xs bs h; exact h
 | succ n ih =>
  intro xs bs h;cases h with
  | nil=>exact .nil
  | cons a b=>exact ih b
end
section
variable {X:Cx} {pins:List (Addr × Obj)} {σ:L2.St} {H:Hp} {s:Shared} {β:Type} {enc:β->PyData}
theorem Fy (I:Inv X pins σ H s):∀ {vs:List V} {us:List Value} {bs:List β},Bears X.K H enc vs bs->Vals vs us ->
  EachIs (fun u b=>∃ v,RelV v u/\Dp X.K H v (enc b)) us bs/\EachIs (fun u b=>∃ as,Reads s.heap u (enc b) as) us bs
 | _,_,_,.nil,.nil=>⟨.nil,.nil⟩
 | _,_,_,.cons h t,.cons r u=>by
  obtain ⟨h1,h2⟩:=Fy I t u;exact ⟨.cons ⟨_,r,h⟩ h1,.cons (Dp.reads I _ _ _ h r) h2⟩
theorem Ie {K:Qn}:∀ {us:List Value} {bs:List β},EachIs (fun u b=>∃ v,RelV v u/\Dp K H v (enc b)) us bs->∃ vs,Vals vs us/\Bears K H enc vs bs
 | _,_,.nil=>⟨[],.nil,.nil⟩
 | _,_,.cons ⟨v,r,h⟩ t=>by
  obtain ⟨vs,h1,h2⟩:=Ie t;exact ⟨v::vs,.cons r h1,.cons h h2⟩
end
section
variable {P:Program} {w:World} {K:Qn} {mg:Str->Option Value} {base:Heap} {f:Addr} {fd:FuncData}
def HX (K:Qn):Sp:=fun vs H Q _=>∃ (v:V) (n:String) (b1 b2:Bool),vs=[v]/\TyX K H v (.type n)/\kitB n "int"=some b1/\(b1=true->kitB n "bool"=some b2)/\Q (.bl (b1&&!b2)) H
def NU (K:Qn) (ps:List Addr):Sp:=fun vs H Q _=>∃ (v:V) (d:PyData),vs=[v]/\Th K ps H v d/\Q (.bl (qS d)) H
end
def ltsD:List PyData->List Bool
 | []=>[]
 | [_]=>[]
 | a::b::r=>dataLt a b::ltsD (b::r)
def HY (ds:List PyData):Bool:=(ltsD ds).all id
theorem QM:∀ ds:List PyData,(ltsD ds).length=ds.length-1
 | []=>rfl
 | [_]=>rfl
 | a::b::r=>by
  have h:=QM (b::r);show (ltsD (b::r)).length+1=_;rw [h]; simp
theorem Wv:∀ (ds:List PyData) (i:Nat) (d e:PyData),ds[i]?=some d->ds[i+1]?=some e->(ltsD ds)[i]?=some (dataLt d e)
 | [],_,_,_,h,_=>by simp at h
 | [_],_,_,_,_,h=>by simp at h
 | a::b::r,0,d,e,h1,h2=>by simp at h1 h2; subst h1 h2; rfl
 | a::b::r,i+1,d,e,h1,h2=>by
  have:=Wv (b::r) i d e (by simpa using h1) (by simpa using h2);simpa [ltsD] using this
theorem EB (xs:List V):cutV xs (some 1) none=xs.drop 1:=by
 unfold cutV;have h1:HT.sIx xs.length 0 (some 1)=min 1 xs.length:=HT.sIx_nat xs.length 0 1;have h2:HT.sIx xs.length xs.length none=xs.length:=rfl;rw [h1,h2];cases xs with
 | nil=>rfl
 | cons x r =>
  have:min 1 (x::r).length=1:=by simp
  rw [this];simp
section
variable {P:Program} {w:World} {K:Qn} {mg:Str->Option Value} {base:Heap} {f:Addr} {fd:FuncData}
def OkD (d:PyData):Prop:=noList d=true/\d ≠ .none/\d.depth<=100
def Wt (K:Qn):Sp:=fun vs H Q _=>∃ (a:Addr) (xs:List V) (ds:List PyData),vs=[.ref a]/\SqL K H a xs/\DpAll K H xs ds/\(∀ d ∈ ds,OkD d)/\AllAlike ds/\xs.length<=1000 /\
 ∀ H',SB [] H H'->Q (.bl (HY ds)) H'
abbrev WQ:List Str:=[cA,"low","high"]
end
def Lad.num (i:Int):Lad:=if i=0 then .nil else .cons .nil i .nil
def Lad.lt (l k:Lad):Bool:=dataLt l.enc k.enc
section
variable {P:Program} {w:World} {K:Qn} {mg:Str->Option Value} {base:Heap} {f:Addr} {fd:FuncData}
theorem Bx (h:SqT K H p []):LA K H (.ref p) .nil:=Dp.tup h .nil
theorem HV {u:V} {e:Lad} (h:SqT K H p [.ref q]) (h2:SqT K H q [u,.int m]) (h3:LA K H u e):LA K H (.ref p) (.cons e m .nil) :=
 Dp.tup h (.cons (.tup h2 (.cons h3 (.cons (.int m) .nil))) .nil)
def WT (K:Qn):Sp:=fun vs H Q _=>∃ i:Int,vs=[.int i]/\∀ v H',SB [] H H'->LA K H' v (Lad.num i)->Q v H'
def Ft (K:Qn):Sp:=fun vs H Q _=>∃ (v u:V) (l k:Lad),vs=[v,u]/\LA K H v l/\LA K H u k/\l.deep<=45/\Q (.bl (l.lt k)) H
end
namespace Lad
def ps:Lad->List (Lad × Int)
 | .nil=>[]
 | .cons e m r=>(e,m)::r.ps
def ofPs:List (Lad × Int)->Lad
 | []=>.nil
 | (e,m)::r=>.cons e m (ofPs r)
def aB (p:Lad × Int):PyData:=.tuple [p.1.enc,.int p.2]
theorem aC:∀ l:Lad,ofPs l.ps=l
 | .nil=>rfl
 | .cons e m r=>by show cons e m (ofPs r.ps)=_; rw [aC r]
theorem aQ:∀ l:List (Lad × Int),(ofPs l).ps=l
 | []=>rfl
 | (e,m)::r=>by show (e,m)::(ofPs r).ps=_; rw [aQ r]
theorem dS:∀ l:Lad,l.encs=l.ps.map aB
 | .nil=>rfl
 | .cons e m r=>by show _::r.encs=aB (e,m)::r.ps.map aB; rw [dS r]; rfl
theorem bB (l:Lad):l.ps.length=l.len:=by rw [<- lx,dS,Ye]
theorem bu:∀ (l:Lad) (p:Lad × Int),p ∈ l.ps->p.1.parts < l.parts
 | .nil,_,h=>by simp [ps] at h
 | .cons e m r,p,h=>by
  rcases Qv h with h | h
  ·subst h; show e.parts < 1+e.parts+r.parts; omega
  ·have:=bu r p h; show p.1.parts < 1+e.parts+r.parts; omega
theorem av:∀ (l:Lad) (p:Lad × Int),p ∈ l.ps->p.1.deep < l.deep
 | .nil,_,h=>by simp [ps] at h
 | .cons e m r,p,h=>by
  rcases Qv h with h | h
  ·subst h; show e.deep < max (1+e.deep) r.deep; omega
  ·have:=av r p h; show p.1.deep < max (1+e.deep) r.deep; omega
end Lad
section
variable {P:Program} {w:World} {K:Qn} {mg:Str->Option Value} {base:Heap} {f:Addr} {fd:FuncData}
theorem nG {p:Lad × Int} (h:Dp K H v (Lad.aB p)):∃ a u,v=.ref a/\SqT K H a [u,.int p.2]/\LA K H u p.1:=by
 have h':Dp K H v (.tuple [p.1.enc,.int p.2]):=h;cases h' with
 | tup hs ha =>
  cases ha with
  | cons a1 a2 =>
   cases a2 with
   | cons b1 b2 =>
    cases b2;cases b1;exact ⟨_,_,Ja,hs,a1⟩
abbrev zkk (K:Qn):TG:=gTup K 2 (gCons (gName 1) (gCons (gName 2) gNil))
end
def om:PyData->PyData
 | .tuple (e::_)=>e
 | _=>.none
mutual
def ladD:PyData->Bool
 | .tuple ds=>U5 ds&&HY (ds.map om).reverse
 | _=>false
def U5:List PyData->Bool
 | []=>true
 | d::ds=>RT d&&U5 ds
def RT:PyData->Bool
 | .tuple ds=>zj6 ds
 | _=>false
def zj6:List PyData->Bool
 | []=>false
 | e::r=>ladD e&&sW r
def sW:List PyData->Bool
 | []=>false
 | m::r=>qS m&&r.isEmpty
end
theorem XP {ds:List PyData} {d:PyData} (h:ds[i]?=some d):d.depth<=PyData.depthAll ds:=PyData.depth_le_depthAll ds d (Qu h)
section
variable {P:Program} {w:World} {K:Qn} {mg:Str->Option Value} {base:Heap} {f:Addr} {fd:FuncData} {ps:List Addr}
mutual
def wide:PyData->Nat
 | .tuple ds=>max ds.length (tD ds)
 | _=>0
def tD:List PyData->Nat
 | []=>0
 | d::ds=>max (wide d) (tD ds)
end
theorem Qk:∀ (ds:List PyData) (d:PyData),d ∈ ds->wide d<=tD ds
 | [],_,h=>by simp at h
 | e::ds,d,h=>by
  rw [tD];rcases Qv h with h | h
  ·subst h; omega
  ·have:=Qk ds d h; omega
theorem QJ (ds:List PyData):wide (.tuple ds)=max ds.length (tD ds):=by rw [wide]
end
section
variable {K:Qn} {H:Hp}
theorem DpAll.append:∀ {xs ys:List V} {ds es:List PyData},DpAll K H xs ds->DpAll K H ys es->DpAll K H (xs++ys) (ds++es)
 | _,_,_,_,.nil,h=>h
 | _,_,_,_,.cons a b,h=>.cons a (DpAll.append b h)
end
section
variable {K:Qn} {a b:Addr} {xs ys:List V}
theorem zc3 (hn:n=min xs.length ys.length):Walk (RZ.ItzT K a b) n (fun H=>SqT K H a xs/\SqT K H b ys) (YPair (fun i=>xs[i]?) (fun i=>ys[i]?)):=by
 subst hn;refine ⟨fun i H hi h=>?_,fun H h=>?_,fun i H x H' hi h y=>?_⟩
 ·have h1:i < xs.length:=by omega
  have h2:i < ys.length:=by omega
  exact ⟨xs,ys,xs[i],ys[i],h.1,h.2,Kp h1,Kp h2⟩
 ·exact ⟨xs,ys,h.1,h.2,by omega⟩
 ·obtain ⟨T,x1,y1,e1,e2,e3,e4,e5⟩:=y;exact ⟨T,x1,y1,e1,e2,e3,e4 xs h.1,e5 ys h.2⟩
end
theorem ib (m m':Int):(m == m')=decide (m=m'):=by by_cases h:m=m' <;> simp [h]
theorem Lad.uK:∀ l k:Lad,PyData.eqvAll l.encs k.encs=decide (l=k)
 | .nil,.nil=>by simp [encs,PyData.eqvAll]
 | .nil,.cons _ _ _=>by simp [encs,PyData.eqvAll]
 | .cons _ _ _,.nil=>by simp [encs,PyData.eqvAll]
 | .cons e m r,.cons e' m' r'=>by
  have h1:=Lad.uK e e';have h2:=Lad.uK r r';simp [encs,PyData.eqvAll,PyData.eqv,h1,h2,Bool.and_assoc,ib]
theorem Lad.bc (l k:Lad):PyData.eqv l.enc k.enc=decide (l=k):=by
 rw [Lad.enc,Lad.enc,PyData.eqv]; exact Lad.uK l k
theorem Lad.lt_nil_nil:Lad.lt .nil .nil=false:=by decide +kernel
theorem Lad.lt_nil_cons (e:Lad) (m:Int) (r:Lad):Lad.lt .nil (.cons e m r)=true:=by
 unfold Lad.lt Lad.enc;rw [dataLt_tuple,Lad.encs,Lad.encs,toks_all_cons,show keyToksAll []=[.inl 0] by simp [keyToksAll],lex_atom (by simp),lex_one]
 decide +kernel
theorem Lad.lt_cons_nil (e:Lad) (m:Int) (r:Lad):Lad.lt (.cons e m r) .nil=false:=by
 unfold Lad.lt Lad.enc;rw [dataLt_tuple,Lad.encs,Lad.encs,toks_all_cons,show keyToksAll []=[.inl 0] by simp [keyToksAll],lex_atom (by simp),lex_one]
 decide +kernel
theorem Lad.fQ (e e':Lad) (m m':Int) (r r':Lad):Lad.lt (.cons e m r) (.cons e' m' r')=if e=e' then (if m=m' then r.lt r' else decide (m < m')) else e.lt e':=by
 have al:alike (.tuple [e.enc,.int m]) (.tuple [e'.enc,.int m'])=true:=by simp [alike,alikeAll,e.dH e']
 have h1:Lad.lt (.cons e m r) (.cons e' m' r')=if PyData.eqv (.tuple [e.enc,.int m]) (.tuple [e'.enc,.int m'])=true then r.lt r' else dataLt (.tuple [e.enc,.int m]) (.tuple [e'.enc,.int m']):=by
  unfold Lad.lt;rw [show (Lad.cons e m r).enc=.tuple (.tuple [e.enc,.int m]::r.encs) from rfl,show (Lad.cons e' m' r').enc=.tuple (.tuple [e'.enc,.int m']::r'.encs) from rfl,dataLt_tuple,dataLt_cons al];rw [show dataLt r.enc r'.enc=PyProof.Rows.lexLt itemOrd (keyToksAll r.encs) (keyToksAll r'.encs) from dataLt_tuple _ _]
 have h2:PyData.eqv (.tuple [e.enc,.int m]) (.tuple [e'.enc,.int m'])=(decide (e=e')&&decide (m=m')):=by
  simp [PyData.eqv,PyData.eqvAll,Lad.bc,ib]
 rw [h1,h2,dataLt_pair (e.dH e') (by simp [alike]),Lad.bc];by_cases he:e=e'
 ·by_cases hm:m=m'
  ·simp [he,hm]
  ·simp [he,hm,PyData.eqv,dataLt_int]
 ·simp [he,Lad.lt]
namespace Lad
theorem lt_irrefl:∀ l:Lad,l.lt l=false
 | .nil=>lt_nil_nil
 | .cons e m r=>by rw [fQ,if_pos rfl,if_pos rfl]; exact lt_irrefl r
theorem eJ:∀ l:Lad,l.lt .nil=false
 | .nil=>lt_nil_nil
 | .cons e m r=>lt_cons_nil e m r
theorem fC {l k:Lad} (h:l.lt k=true):l ≠ k:=fun z=>by subst z; rw [lt_irrefl] at h; cases h
theorem fb:∀ l k:Lad,l ≠ k->l.lt k=false->k.lt l=true
 | .nil,.nil,h,_=>absurd rfl h
 | .nil,.cons e m r,_,h=>by rw [lt_nil_cons] at h; cases h
 | .cons e m r,.nil,_,_=>lt_nil_cons e m r
 | .cons e m r,.cons e' m' r',n6,h=>by
  rw [fQ] at h ⊢;by_cases he:e=e'
  ·subst he;rw [if_pos rfl] at h ⊢;by_cases hm:m=m'
   ·subst hm;rw [if_pos rfl] at h ⊢;exact fb r r' (fun z=>n6 (by rw [z])) h
   ·rw [if_neg hm] at h;rw [if_neg (fun z=>hm z.symm)];have:=of_decide_eq_false h;exact Ya (by omega)
  ·rw [if_neg he] at h;rw [if_neg (fun z=>he z.symm)];exact fb e e' he h
theorem lt_trans:∀ l k j:Lad,l.lt k=true->k.lt j=true->l.lt j=true
 | _,_,.nil,_,h=>by rw [eJ] at h; cases h
 | _,.nil,.cons _ _ _,h,_=>by rw [eJ] at h; cases h
 | .nil,.cons _ _ _,.cons e m r,_,_=>lt_nil_cons e m r
 | .cons e m r,.cons e' m' r',.cons e'' m'' r'',h1,h2=>by
  rw [fQ] at h1 h2 ⊢;by_cases he:e=e'
  ·subst he;rw [if_pos rfl] at h1;by_cases qY:e=e''
   ·subst qY;rw [if_pos rfl] at h2 ⊢;by_cases hm:m=m'
    ·subst hm;rw [if_pos rfl] at h1;by_cases qA:m=m''
     ·subst qA;rw [if_pos rfl] at h2 ⊢;exact lt_trans r r' r'' h1 h2
     ·rw [if_neg qA] at h2 ⊢;exact h2
    ·rw [if_neg hm] at h1;have a1:=Ks h1;by_cases qA:m'=m''
     ·subst qA;rw [if_neg hm];exact h1
     ·rw [if_neg qA] at h2;have a2:=Ks h2;rw [if_neg (by omega)];exact Ya (by omega)
   ·rw [if_neg qY] at h2 ⊢;exact h2
  ·rw [if_neg he] at h1;by_cases qY:e'=e''
   ·subst qY;rw [if_neg he];exact h1
   ·rw [if_neg qY] at h2;have h3:=lt_trans e e' e'' h1 h2;rw [if_neg (fC h3)];exact h3
theorem lt_asymm {l k:Lad} (h:l.lt k=true):k.lt l=false:=by
 cases e:k.lt l with
 | false=>rfl
 | true =>
  have:=lt_trans l k l h e;rw [lt_irrefl] at this;cases this
def Ok (B:Int):Lad->Prop
 | .nil=>True
 | .cons e m r=>e.Ok B/\1<=m/\m < B/\r.Ok B/\∀ p ∈ r.ps,p.1.lt e=true
theorem Ok.mono {B C:Int} (h:B<=C):∀ {l:Lad},l.Ok B->l.Ok C
 | .nil,_=>trivial
 | .cons e m r,⟨h1,h2,h3,h4,h5⟩=>⟨Ok.mono h h1,h2,by omega,Ok.mono h h4,h5⟩
theorem fB {B:Int}:∀ {ps:List (Lad × Int)},(ofPs ps).Ok B ↔ (∀ p ∈ ps,p.1.Ok B/\1<=p.2/\p.2 < B)/\ps.Pairwise (fun p q=>q.1.lt p.1=true)
 | []=>by simp [ofPs,Ok]
 | (e,m)::r=>by
  have ih:=fB (B:=B) (ps:=r);show (e.Ok B/\1<=m/\m < B/\(ofPs r).Ok B/\∀ p ∈ (ofPs r).ps,p.1.lt e=true) ↔ _;rw [aQ,List.pairwise_cons,ih];constructor
  ·rintro ⟨h1,h2,h3,⟨h4,h5⟩,h6⟩
   refine ⟨fun p hp=>?_,h6,h5⟩;rcases Qv hp with hp | hp
   ·subst hp; exact ⟨h1,h2,h3⟩
   ·exact h4 p hp
  ·rintro ⟨h1,h2,h3⟩
   have h4:=h1 (e,m) (bM ..);exact ⟨h4.1,h4.2.1,h4.2.2,⟨fun p hp=>h1 p (bR _ hp),h3⟩,h2⟩
theorem bj {l:Lad}:l.Ok B ↔ (∀ p ∈ l.ps,p.1.Ok B/\1<=p.2/\p.2 < B)/\l.ps.Pairwise (fun p q=>q.1.lt p.1=true):=by
 have:=fB (B:=B) (ps:=l.ps);rw [aC] at this;exact this
end Lad
section
variable {P:Program} {w:World} {K:Qn} {mg:Str->Option Value} {base:Heap} {f:Addr} {fd:FuncData}
def spLaw (K:Qn):Sp:=fun vs H Q _=>∃ (a:Addr) (ns:List Int),vs=[.ref a]/\SqL K H a (ns.map V.int)/\ns.length<=63/\∀ H',Q (.bl true) H'
theorem tG {ps:List Str} {sp:Sp} (no:∀ vs H Q E,¬ sp vs H Q E):FnOk P w K mg base CX0 k f fd ps sp :=
 ⟨fun vs H Q E h=>absurd h (no vs H Q E),fun A outer s H args us vs Q E _ _ _ _ h=>absurd h (no vs H Q E)⟩
end
namespace Lad
theorem kQ:∀ l:Lad,PyData.canLayAll0 l.encs=true
 | .nil=>by simp [encs,PyData.canLayAll0]
 | .cons e m r=>by simp [encs,PyData.canLayAll0,PyData.canLay0,kQ e,kQ r]
theorem aH {l:Lad} (h:l.deep<=31):SeqAt.shaped l.enc=true:=by
 have:=l.cz;unfold SeqAt.shaped;rw [show l.enc.canLay0=true by rw [enc,PyData.canLay0]; exact kQ l];simp; omega
theorem ug (p q:Lad × Int):alike (aB p) (aB q)=true:=by simp [aB,alike,alikeAll,p.1.dH q.1]
theorem af (p:Lad × Int):noList (aB p)=true:=by simp [aB,noList,jw,Lad.aj]
theorem dv (p:Lad × Int):(aB p).depth<=2*p.1.deep+2:=by
 have:=p.1.cz;simp only [aB,PyData.depth,PyData.depthAll]; omega
theorem jR (bs:List (Lad × Int)):AllAlike (bs.map aB):=AllAlike.of ug
theorem eG (bs:List (Lad × Int)):Sortable (bs.map aB):=Sortable.tuples fun b=>⟨_,_,rfl⟩
theorem Rq (p q:Lad × Int):dataLt (aB p) (aB q)=if p.1=q.1 then decide (p.2 < q.2) else p.1.lt q.1:=by
 unfold aB;rw [dataLt_pair (p.1.dH q.1) (by simp [alike]),Lad.bc];by_cases h:p.1=q.1
 ·rw [if_pos (by simp [h]),if_pos h,dataLt_int];by_cases h2:p.2=q.2
  ·simp [PyData.eqv,h2]
  ·simp [PyData.eqv,h2]
 ·rw [if_neg (by simp [h]),if_neg h]; rfl
def tot:List (Lad × Int)->Nat
 | []=>0
 | p::r=>1+p.1.parts+tot r
theorem aU:∀ bs:List (Lad × Int),(ofPs bs).parts=tot bs
 | []=>rfl
 | (e,m)::r=>by show 1+e.parts+(ofPs r).parts=1+e.parts+tot r; rw [aU r]
theorem aX:∀ bs cs:List (Lad × Int),tot (bs++cs)=tot bs+tot cs
 | [],cs=>by simp [tot]
 | p::r,cs=>by show 1+p.1.parts+tot (r++cs)=_; rw [aX r cs,tot]; omega
theorem i9 (f:Lad × Int->Bool):∀ bs:List (Lad × Int),tot (bs.filter f)<=tot bs
 | []=>by simp [tot]
 | p::r=>by
  have:=i9 f r;rw [List.filter_cons]
  split
  ·show 1+p.1.parts+tot (r.filter f)<=1+p.1.parts+tot r; omega
  ·show tot (r.filter f)<=1+p.1.parts+tot r; omega
theorem jG {bs cs:List (Lad × Int)} (h:bs.Perm cs):tot bs=tot cs:=by
 induction h with
 | nil=>rfl
 | cons x _ ih=>simp only [tot]; omega
 | swap x y l=>simp only [tot]; omega
 | trans _ _ h1 h2=>omega
theorem gR {n:Nat}:∀ {bs:List (Lad × Int)},(∀ b ∈ bs,b.1.deep < n)->(ofPs bs).deep<=n
 | [],_=>Nat.zero_le _
 | (e,m)::r,h=>by
  have h1:=gR (bs:=r) fun b hb=>h b (bR _ hb);have h2:e.deep < n:=h (e,m) (bM ..);show max (1+e.deep) (ofPs r).deep<=n;omega
end Lad
theorem BD {bs:List (Lad × Int)} (h:SqT K H a xs) (hb:Bears K H Lad.aB xs bs):LA K H (.ref a) (Lad.ofPs bs):=by
 refine Dp.tup h ?_;rw [Lad.dS,Lad.aQ];exact hb.dp
theorem lz {l:Lad} (h:LA K H v l):∃ a xs,v=.ref a/\SqT K H a xs/\Bears K H Lad.aB xs l.ps:=by
 obtain ⟨a,xs,rfl,hs,ha⟩:=h.tup;rw [Lad.dS] at ha;exact ⟨a,xs,Ja,hs,Bears.of ha⟩
def Vj (K:Qn):R2:=fun x y H Q=>∃ a b xs ys,x=.ref a/\y=.ref b/\SqT K H a xs/\SqT K H b ys/\xs.length+ys.length<=10000000/\∀ c H',SB [] H H'->SqT K H' c (xs++ys)->Q (.ref c) H'
def rSlB (K:Qn):V->Option Int->Option Int->Hp->VK->Prop:=fun x lo hi H Q=>∃ a xs,x=.ref a/\SqT K H a xs/\∀ c H',SB [] H H'->SqT K H' c (cutV xs lo hi)->Q (.ref c) H'
section
variable {X:Cx}
theorem zT:OpR X (binaryOp .Add) (Vj X.K):=by
 intro pins s σ H x y v u Q I rx ry h;obtain ⟨a,b,xs,ys,rfl,rfl,ha,hb,hz,q⟩:=h;refine op_catA pins s σ H _ _ v u Q I rx ry ⟨a,b,xs,ys,Ja,Ja,ha,hb,by rw [sizeLine_eq]; omega,fun e=>?_,fun e1 e2=>?_,fun e1 e2 p hp=>?_⟩
 ·subst e; exact q b H SB.refl hb
 ·subst e2; exact q a H SB.refl (by rw [Kz]; exact ha)
 ·exact q p _ (SB.new hp _) (SqT.of Qt)
theorem CS:SlR X (rSlB X.K):=by
 intro pins s σ H x v vl vu lo hi sl Q I rx hs pl pu h;obtain ⟨a,xs,rfl,hx,q⟩:=h;refine sl_tupA pins s σ H _ v vl vu lo hi sl Q I rx hs pl pu ⟨a,xs,Ja,hx,fun e=>?_,fun e p hp=>?_⟩
 ·refine q a H SB.refl ?_;have:cutV xs lo hi=xs:=by
   unfold cutV;rw [e.1,e.2];simp
  rw [this]; exact hx
 ·exact q p _ (SB.new hp _) (SqT.of Qt)
end
theorem N1 (xs:List V) (k:Nat):cutV xs none (some (k:Int))=xs.take k:=by
 unfold cutV;have h1:HT.sIx xs.length 0 none=0:=rfl;have h2:HT.sIx xs.length xs.length (some (k:Int))=min k xs.length:=HT.sIx_nat xs.length xs.length k;rw [h1,h2];simp
theorem PH (xs:List V) (k:Nat):cutV xs (some (k:Int)) none=xs.drop k:=by
 unfold cutV;have h1:HT.sIx xs.length 0 (some (k:Int))=min k xs.length:=HT.sIx_nat xs.length 0 k;have h2:HT.sIx xs.length xs.length none=xs.length:=rfl;rw [h1,h2];by_cases h:k<=xs.length
 ·rw [Nat.min_eq_left h,List.take_of_length_le (by rw [List.length_drop]; omega)]
 ·rw [Nat.min_eq_right (by omega),List.drop_eq_nil_of_le (Yc _),List.drop_eq_nil_of_le (by omega)];simp
namespace Lad
def aK (ps:List (Lad × Int)) (e:Lad):Int:=((ps.filter fun p=>decide (p.1=e)).map (·.2)).sum
def gU (l k:Lad):Lad:=match k.ps with
 | []=>l
 | (e,m)::r=>ofPs (l.ps.filter (fun p=>e.lt p.1)++(e,aK l.ps e+m)::r)
theorem fU (l:Lad):gU l .nil=l:=rfl
theorem gT (l e:Lad) (m:Int) (r:Lad):gU l (.cons e m r)=ofPs (l.ps.filter (fun p=>e.lt p.1)++(e,aK l.ps e+m)::r.ps):=rfl
end Lad
def Wf (K:Qn):Sp:=fun vs H Q _=>∃ (v u:V) (l e:Lad),vs=[v,u]/\LA K H v l/\LA K H u e/\l.deep<=30/\e.deep<=30/\l.parts<=1000000/\∀ H',SB [] H H'->Q (.int (Lad.aK l.ps e)) H'
def N6 (K:Qn):Sp:=fun vs H Q _=>∃ (v u:V) (l k:Lad),vs=[v,u]/\LA K H v l/\LA K H u k/\l.deep<=30/\k.deep<=30/\l.parts<=900000/\k.parts<=900000/\∀ (x:V) (H':Hp),SB [] H H'->LA K H' x (l.gU k)->Q x H'
namespace Lad
theorem b9 {l:Lad} (h:l.deep<=n):∀ p ∈ l.ps,p.1.deep < n:=fun p hp=>Nat.lt_of_lt_of_le (av l p hp) h
end Lad
namespace Lad
theorem gS (l k:Lad):(gU l k).parts<=l.parts+k.parts:=by
 cases k with
 | nil=>rw [fU]; omega
 | cons e m r =>
  rw [gT,aU,aX];have h1:l.parts=tot l.ps:=by rw [<- aU,aC]
  have h2:=i9 (fun p=>e.lt p.1) l.ps;have h3:r.parts=tot r.ps:=by rw [<- aU,aC]
  simp only [tot,Lad.parts];omega
theorem iP {l k:Lad} (hl:l.deep<=n) (hk:k.deep<=n):(gU l k).deep<=n:=by
 cases k with
 | nil=>rw [fU]; exact hl
 | cons e m r =>
  rw [gT];refine gR fun b hb=>?_;rcases Qw hb with hb | hb
  ·exact b9 hl b (List.mem_filter.mp hb).1
  ·rcases Qv hb with hb | hb
   ·subst hb; exact b9 hk (e,m) (bM ..)
   ·exact b9 hk b (bR _ hb)
end Lad
namespace Lad
theorem Jg (p q:Lad × Int) (r s:List (Lad × Int)):(ofPs (p::r)).lt (ofPs (q::s))=if p.1=q.1 then (if p.2=q.2 then (ofPs r).lt (ofPs s) else decide (p.2 < q.2)) else p.1.lt q.1:=fQ _ _ _ _ _ _
theorem qi {l o:Lad} {p q:Lad × Int} (hp:l.ps[k]?=some p) (hq:o.ps[k]?=some q):(ofPs (l.ps.drop k)).lt (ofPs (o.ps.drop k))=if p.1=q.1 then (if p.2=q.2 then (ofPs (l.ps.drop (k+1))).lt (ofPs (o.ps.drop (k+1))) else decide (p.2 < q.2)) else p.1.lt q.1:=by
 have h1:k < l.ps.length:=(Kq hp).1;have h2:k < o.ps.length:=(Kq hq).1;have e1:l.ps[k]=p:=(Kq hp).2;have e2:o.ps[k]=q:=(Kq hq).2;rw [List.drop_eq_getElem_cons h1,List.drop_eq_getElem_cons h2,e1,e2,Jg]
theorem DC {l o:Lad} (hk:k<=l.ps.length) (D9:k<=o.ps.length) (h:¬ (k < l.ps.length/\k < o.ps.length)):(ofPs (l.ps.drop k)).lt (ofPs (o.ps.drop k))=(decide (k=l.ps.length)&&decide (k < o.ps.length)):=by
 by_cases h1:k=l.ps.length
 ·rw [List.drop_eq_nil_of_le (show l.ps.length<=k by omega)];by_cases h2:k < o.ps.length
  ·rw [List.drop_eq_getElem_cons h2];show Lad.lt .nil (.cons _ _ _)=_;rw [lt_nil_cons]; simp [h1]; omega
  ·rw [List.drop_eq_nil_of_le (by omega)];show Lad.lt .nil .nil=_;rw [lt_nil_nil]; simp; intro _; omega
 ·have h2:¬ k < o.ps.length:=by omega
  rw [List.drop_eq_nil_of_le (as:=o.ps) (by omega)];show Lad.lt _ .nil=_;rw [eJ]; simp [h1]
end Lad
def xR (K:Qn) (n:Nat):Sp:=fun vs H Q _=>∃ (v u:V) (l k:Lad),vs=[v,u]/\LA K H v l/\LA K H u k/\l.deep < n/\l.deep<=30/\k.deep<=30/\∀ H',SB [] H H'->Q (.bl (l.lt k)) H'
theorem Bears.at {K:Qn} {H:Hp} {β:Type} {enc:β->PyData}:∀ {vs:List V} {bs:List β} {i:Nat} {b:β},Bears K H enc vs bs->bs[i]?=some b->∃ v,vs[i]?=some v/\Dp K H v (enc b)
 | _,_,_,_,.nil,e=>by simp at e
 | _,_,0,_,.cons h t,e=>by simp at e; subst e; exact ⟨_,Ja,h⟩
 | _,_,i+1,b,.cons h t,e=>by
  obtain ⟨d,h1,h2⟩:=Bears.at (i:=i) (b:=b) t (by simpa using e);exact ⟨d,by simpa using h1,h2⟩
namespace Lad
theorem le_trans {a b c:Lad} (h1:b.lt a=false) (h2:c.lt b=false):c.lt a=false:=by
 cases e:c.lt a with
 | false=>rfl
 | true =>
  by_cases jk:a=b
  ·subst jk; rw [e] at h2; cases h2
  ·have h3:a.lt b=true:=fb b a (fun z=>jk z.symm) h1;have h4:=lt_trans c a b e h3;rw [h4] at h2; cases h2
theorem le_of_lt {a b:Lad} (h:a.lt b=true):b.lt a=false:=lt_asymm h
end Lad
section
variable {prog:Program} {w:World} {A:Around} {E:Value->Shared->Prop} {s:Shared} {β:Type} {vs:List Value} {bs:List β} {enc:β->PyData} {R:Value->β->Prop}
theorem XF {t:Addr} {kw:List (Str × Value)} {b:Bool} {Q:Value->Shared->Prop} (AY:∀ a,Builtin.«list.sort» ⟨[.ref a],kw⟩=Builtin.«list.sort» ⟨[.ref a],[(Str.ofString "reverse",.bool b)]⟩) (sD:argsOk "sorted" ⟨[.ref t],kw⟩) (xK:∀ x,argsOk "list.sort" ⟨[.ref x],kw⟩)
  (ht:IsTup s.heap t vs.toArray) (e:EachIs R vs bs) (er:EachIs (fun v b=>∃ as,Reads s.heap v (enc b) as) vs bs) (oR:AllAlike (bs.map enc)) (hk:Sortable (bs.map enc)) (hL:bs.length<=sizeLine)
  (hu:∀ b,b ∈ bs->A.units+2+(enc b).depth < cLine)
  (h:∀ (out:List Value) (h' h2:Heap) (n:Nat),(∀ b o,s.heap.get? b=some o->h'.get? b=some o)->(∀ b o,h'.get? b=some o->h2.get? b=some o)->h2.get? h'.objs.size=some (seqObj "list" out.toArray n)->out.length=bs.length->EachIs R out (bs.mergeSort (dataLe b enc))->Q (.ref h'.objs.size) { s with heap:=h2 }) :
  wpAny (model prog w) A (call (.builtin "sorted") [.ref t] kw) Q E s:=by
 have hlen:vs.length<=sizeLine:=by rw [e.length]; exact hL
 obtain ⟨o,ho,hc,n0,hd⟩:=id ht;refine call_function_entry_kw kind_sorted plain_sorted entry_sorted sD ?_;unfold Builtin.«sorted»;refine wpAny_bind (m:=checkCount "sorted" 1 1 _) (wpAny_pure ?_);refine Ke (wpAny_collect_seq t (.inr rfl) ho hc hd (fun h' xJ=>?_) (by rw [List.size_toArray]; exact hlen));refine Ke (wpAny_newList ?_ hlen);show wpAny _ _ _ _ _ { s with heap:=h'.push (seqObj "list" vs.toArray 0) };have uH:(h'.push (seqObj "list" vs.toArray 0)).get? h'.objs.size=some (seqObj "list" vs.toArray 0):=Heap.get?_push_size _ rfl;refine Ke (wpAny_holding (wpAny_call_entry_kw slot_list_sort ⟨_,uH,Ja⟩ entry_list_sort ?body (xK _)))
 case body =>
  rw [AY];have old:∀ b o,h'.get? b=some o->(sortingHeap (h'.push (seqObj "list" vs.toArray 0)) h'.objs.size vs).get? b=some o:=fun b o q=>sortingHeap_old (Nat.ne_of_lt (Heap.lt_size q)) (Heap.get?_push_of_some _ q);have Mo:EachIs (fun v b=>∃ as,Reads (sortingHeap (h'.push (seqObj "list" vs.toArray 0)) h'.objs.size vs) v (enc b) as) vs bs:=er.mono fun _ _ ⟨as,r⟩=>⟨as,PyProof.Rows.Reads.keeps (fun b o q=>old b o (xJ b o q)) r⟩;refine list_sort_rev_vals (s:={ s with heap:=h'.push (seqObj "list" vs.toArray 0) }) (κ:=dataKind (sortingHeap (h'.push (seqObj "list" vs.toArray 0)) h'.objs.size vs) (bs.map enc)) uH (SortsAt.data (s:={ s with heap:=sortingHeap (h'.push (seqObj "list" vs.toArray 0)) h'.objs.size vs }) (each_map (R:=fun v d=>∃ as,Reads (sortingHeap (h'.push (seqObj "list" vs.toArray 0)) h'.objs.size vs) v d as) enc Mo) oR hk (bound_map hu)) hlen ?_;refine ⟨_,Ja,wpAny_pure ⟨_,Ja,?_⟩⟩;obtain ⟨n2,vr⟩:=sortedHeap_at (out:=(sortVals (dataKind (sortingHeap (h'.push (seqObj "list" vs.toArray 0)) h'.objs.size vs) (bs.map enc)) b vs vs).toArray) uH;refine h _ h' _ n2 xJ (fun b o q=>?_) vr (by rw [sortVals_length b rfl]; exact e.length) (sortVals_data b e Mo oR);rw [sortedHeap_old (Nat.ne_of_lt (Heap.lt_size q)) (by rw [size_push']; exact Nat.lt_succ_of_lt (Heap.lt_size q))];exact Heap.get?_push_of_some _ q
end
def WM (K:Qn) {β:Type} (enc:β->PyData) (b:Bool) (vs:List V) (H:Hp) (Q:VK):Prop:=∃ (a:Addr) (xs:List V) (bs:List β),vs=[V.ref a]/\SqT K H a xs/\Bears K H enc xs bs/\AllAlike (bs.map enc)/\Sortable (bs.map enc)/\bs.length<=10000000/\(∀ b ∈ bs,(enc b).depth<=100) /\
 ∀ (p:Addr) (ys:List V),H p=none->Bears K H enc ys (bs.mergeSort (dataLe b enc))->Q (.ref p) (upd H p (.lst ys))
section
variable {X:Cx}
theorem za3 {β:Type} {enc:β->PyData} {b:Bool} {kw:List (Str × Value)} (hu:X.A.units+110 < cLine) (AY:∀ a,Builtin.«list.sort» ⟨[.ref a],kw⟩=Builtin.«list.sort» ⟨[.ref a],[(Str.ofString "reverse",.bool b)]⟩) (sD:∀ t,argsOk "sorted" ⟨[.ref t],kw⟩) (xK:∀ x,argsOk "list.sort" ⟨[.ref x],kw⟩)
  {pins:List (Addr × Obj)} {s:Shared} {σ:L2.St} {H:Hp} {vs:List V} {us:List Value} {Q:VK} (I:Inv X pins σ H s) (r:Vals vs us) (h:WM X.K enc b vs H Q):wpAny (model X.prog X.w) X.A (call (.builtin "sorted") us kw) (EP X pins σ Q) X.xe s:=by
 obtain ⟨a,xs,bs,rfl,hs,hb,oR,BO,hl,hd,q⟩:=h;obtain ⟨cf,rv,D4,_⟩:=I.tuple hs;rw [Vals.ref1 r];obtain ⟨e1,e2⟩:=Fy I hb rv;refine XF (vs:=cf) (bs:=bs) (enc:=enc) (R:=fun u b=>∃ v,RelV v u/\Dp X.K H v (enc b)) AY (sD _) xK D4 e1 e2 oR BO (by rw [sizeLine_eq]; omega) (fun b m=>by have:=hd b m; omega) fun out h' h2 n k1 k2 uH ho h1=>?_;obtain ⟨ys,g2,g3⟩:=Ie h1;have I':Inv X pins σ H { s with heap:=h' }:=I.kept (t':=s.toks) k1;have hlen:ys.length<=sizeLine:=by rw [g2.length,ho,sizeLine_eq]; omega
 exact ⟨.ref _,upd H h'.objs.size (.lst ys),I'.laid (t':=s.toks) (fun b o e=>k2 b o e) (Yc _) ⟨hlen,out,n,g2,uH⟩,Ja,q _ ys (I'.hok.fresh (Yc _)) g3⟩
theorem zb2 {β:Type} (enc:β->PyData) (hu:X.A.units+110 < cLine):CallR X (.builtin "sorted") (WM X.K enc false):=by
 intro pins s σ H vs us Q I r h;exact za3 (kw:=[]) hu plain_is_rev (fun _=>args_sorted1 _) (fun _=>args_list_sort _) I r h
end
section
variable {γ:Type} [DecidableEq γ]
def la (enc:γ->PyData) (p:γ × Int):PyData:=.tuple [enc p.1,.int p.2]
def eY (acc:List (γ × Int)) (p:γ × Int):List (γ × Int):=match acc.getLast? with
 | some q=>if q.1=p.1 then acc.dropLast++[(p.1,q.2+p.2)] else acc++[p]
 | none=>[p]
def jn (bs:List (γ × Int)):List (γ × Int):=bs.foldl eY []
theorem xS (p:γ × Int):eY [] p=[p]:=rfl
theorem pI (acc:List (γ × Int)) (q p:γ × Int):eY (acc++[q]) p=if q.1=p.1 then acc++[(p.1,q.2+p.2)] else acc++[q]++[p]:=by
 unfold eY;rw [List.getLast?_append];simp
theorem z99 (acc:List (γ × Int)) (p:γ × Int):(eY acc p).length<=acc.length+1:=by
 rcases List.eq_nil_or_concat acc with h | ⟨a,q,h⟩
 ·subst h; simp [eY]
 ·subst h;rw [List.concat_eq_append,pI]
  split <;> simp
theorem PU (bs:List (γ × Int)) (i:Nat) (p:γ × Int) (h:bs[i]?=some p):jn (bs.take (i+1))=eY (jn (bs.take i)) p:=by
 unfold jn;rw [Yg,h,List.foldl_append]
 rfl
theorem Om (bs:List (γ × Int)):(jn bs).length<=bs.length:=by
 have key:∀ (bs acc:List (γ × Int)),(bs.foldl eY acc).length<=acc.length+bs.length:=by
  intro bs
  induction bs with
  | nil=>intro acc; simp
  | cons p r ih =>
   intro acc;have h1:=ih (eY acc p);have h2:=z99 acc p;show (r.foldl eY (eY acc p)).length<=_;rw [Yk];omega
 have:=key bs [];simpa [jn] using this
theorem By (bs:List (γ × Int)):∀ p ∈ jn bs,∃ q ∈ bs,q.1=p.1:=by
 have key:∀ (bs acc:List (γ × Int)),∀ p ∈ bs.foldl eY acc,(∃ q ∈ acc,q.1=p.1)\/∃ q ∈ bs,q.1=p.1:=by
  intro bs
  induction bs with
  | nil=>intro acc p hp; exact .inl ⟨p,hp,Ja⟩
  | cons x r ih =>
   intro acc p hp;rcases ih (eY acc x) p hp with ⟨q,hq,e⟩ | ⟨q,hq,e⟩
   ·rcases List.eq_nil_or_concat acc with h | ⟨a,z,h⟩
    ·subst h;rw [xS] at hq;have:q=x:=by simpa using hq
     subst this;exact .inr ⟨q,bM ..,e⟩
    ·subst h;rw [List.concat_eq_append] at hq ⊢;rw [pI] at hq;by_cases hz:z.1=x.1
     ·rw [if_pos hz] at hq;rcases Qw hq with hq | hq
      ·exact .inl ⟨q,jA _ hq,e⟩
      ·have:q=(x.1,z.2+x.2):=by simpa using hq
       subst this;exact .inr ⟨x,bM ..,e⟩
     ·rw [if_neg hz] at hq;rcases Qw hq with hq | hq
      ·exact .inl ⟨q,hq,e⟩
      ·have:q=x:=by simpa using hq
       subst this;exact .inr ⟨q,bM ..,e⟩
   ·exact .inr ⟨q,bR _ hq,e⟩
 intro p hp;rcases key bs [] p hp with ⟨q,hq,_⟩ | h
 ·cases hq
 ·exact h
theorem zjz {bs:List (γ × Int)} (h:bs.Pairwise (fun a b=>a.1 ≠ b.1)):jn bs=bs:=by
 have key:∀ (bs acc:List (γ × Int)),(acc++bs).Pairwise (fun a b=>a.1 ≠ b.1)->bs.foldl eY acc=acc++bs:=by
  intro bs
  induction bs with
  | nil=>intro acc _; simp
  | cons x r ih =>
   intro acc hp;have e:eY acc x=acc++[x]:=by
    rcases List.eq_nil_or_concat acc with h | ⟨a,z,h⟩
    ·subst h; rfl
    ·subst h;rw [List.concat_eq_append] at hp ⊢;rw [pI,if_neg];have h2:=(List.pairwise_append.mp hp).2.2 z (by simp) x (bM ..);exact h2
   show r.foldl eY (eY acc x)=_;rw [e,ih]
   ·simp
   ·simpa using hp
 have:=key bs [] (by simpa using h);simpa [jn] using this
end
def Wn (K:Qn) {γ:Type} [DecidableEq γ] (enc:γ->PyData):Sp:=fun vs H Q _=>∃ (a:Addr) (xs:List V) (bs:List (γ × Int)),vs=[.ref a]/\SqL K H a xs/\Bears K H (la enc) xs bs/\bs.length<=2000000/\(∀ b ∈ bs,SeqAt.shaped (enc b.1)=true) /\
 ∀ (c:Addr) (ys:List V) (H':Hp),SB [] H H'->SqT K H' c ys->Bears K H' (la enc) ys (jn bs)->Q (.ref c) H'
theorem NX {γ:Type} {enc:γ->PyData} {p:γ × Int} (h:Dp K H v (la enc p)):∃ a u,v=.ref a/\SqT K H a [u,.int p.2]/\Dp K H u (enc p.1):=by
 have h':Dp K H v (.tuple [enc p.1,.int p.2]):=h;cases h' with
 | tup hs ha =>
  cases ha with
  | cons a1 a2 =>
   cases a2 with
   | cons b1 b2 =>
    cases b2;cases b1;exact ⟨_,_,Ja,hs,a1⟩
theorem Oq {γ:Type} {enc:γ->PyData} (hn:∀ g,noList (enc g)=true) (p:γ × Int):noList (la enc p)=true:=by simp [la,noList,jw,hn]
theorem CQ {γ:Type} {enc:γ->PyData} {u:V} {g:γ} (h:SqT K H a [u,.int m]) (h2:Dp K H u (enc g)):Dp K H (.ref a) (la enc (g,m)):=Dp.tup h (.cons h2 (.cons (.int m) .nil))
theorem Bears.snoc {β:Type} {enc:β->PyData} {vs:List V} {bs:List β} {b:β} (h:Bears K H enc vs (bs++[b])):∃ us u,vs=us++[u]/\Bears K H enc us bs/\Dp K H u (enc b):=by
 induction bs generalizing vs with
 | nil =>
  cases h with
  | cons h1 h2=>cases h2; exact ⟨[],_,Ja,.nil,h1⟩
 | cons c r ih =>
  cases h with
  | cons h1 h2 =>
   obtain ⟨us,u,e,h3,h4⟩:=ih h2;exact ⟨_::us,u,by rw [e]; rfl,.cons h1 h3,h4⟩
theorem Ig:atI (xs++[x]) (-1)=some x:=by
 unfold atI ixN;rw [if_neg (by decide),if_pos (by rw [Yf,Yi]; omega)];simp only [Yf,Yi,Option.bind_some];have:((-1:Int)+((xs.length+1:Nat):Int)).toNat=xs.length:=by omega
 rw [this];simp
theorem Wj:ixN (xs++[x]).length (-1)=some xs.length:=by
 unfold ixN;rw [if_neg (by decide),if_pos (by rw [Yf,Yi]; omega),Yf,Yi]
 congr 1; omega
theorem Wg {y:V}:(xs++[x]).set xs.length y=xs++[y]:=by simp
namespace Lad
theorem Ux {a b:Lad × Int} (h1:dataLt (aB a) (aB b)=false) (h2:dataLt (aB b) (aB a)=false):a=b:=by
 rw [Rq] at h1 h2;by_cases h:a.1=b.1
 ·rw [if_pos h] at h1;rw [if_pos h.symm] at h2;have e1:=of_decide_eq_false h1;have e2:=of_decide_eq_false h2;exact Prod.ext h (by omega)
 ·rw [if_neg h] at h1;rw [if_neg (fun z:b.1=a.1=>h z.symm),fb _ _ h h1] at h2;cases h2
abbrev lQ (bs:List (Lad × Int)):List (Lad × Int):=bs.mergeSort (dataLe true aB)
theorem bI (bs:List (Lad × Int)):(lQ bs).Perm bs:=List.mergeSort_perm _ _
theorem uL (bs:List (Lad × Int)):(lQ bs).Pairwise (fun a b=>dataLt (aB a) (aB b)=false):=by
 have h:=sort_pairwise (le:=dataLe true aB) (sortLe_total _ _ _) bs;refine h.imp fun {a b} jk=>?_;have h2:(!dataLt (aB a) (aB b))=true:=jk;simpa using h2
theorem oY:∀ {as bs:List (Lad × Int)},as.Perm bs->as.Pairwise (fun a b=>dataLt (aB a) (aB b)=false)->bs.Pairwise (fun a b=>dataLt (aB a) (aB b)=false)->as=bs
 | [],bs,h,_,_=>(List.nil_perm.mp h).symm
 | a::as,[],h,_,_=>by have:=h.length_eq; simp at this
 | a::as,b::bs,h,h1,h2=>by
  have jk:a=b:=by
   have ha:a ∈ b::bs:=h.mem_iff.mp (bM ..);have hb:b ∈ a::as:=h.mem_iff.mpr (bM ..);rcases Qv ha with ha | ha
   ·exact ha
   ·rcases Qv hb with hb | hb
    ·exact hb.symm
    ·exact Ux ((List.pairwise_cons.mp h1).1 b hb) ((List.pairwise_cons.mp h2).1 a ha)
  subst jk;rw [oY (List.Perm.cons_inv h) (List.pairwise_cons.mp h1).2 (List.pairwise_cons.mp h2).2]
theorem ze {cs bs:List (Lad × Int)} (hp:cs.Perm bs) (hs:cs.Pairwise (fun a b=>dataLt (aB a) (aB b)=false)):cs=lQ bs:=oY (hp.trans (bI bs).symm) hs (uL bs)
theorem y9 (as bs:List (Lad × Int)):lQ (as++bs)=lQ (bs++as):=ze ((bI _).trans List.perm_append_comm) (uL _)
def fw (l k:Lad):Lad:=ofPs (jn (lQ (l.ps++k.ps)))
theorem zp (l k:Lad):fw l k=fw k l:=by unfold fw; rw [y9]
theorem rT {l:Lad} (h:l.Ok B):l.ps.Pairwise (fun a b=>dataLt (aB a) (aB b)=false)/\l.ps.Pairwise (fun a b=>a.1 ≠ b.1):=by
 have h2:=(bj.mp h).2;constructor
 ·refine h2.imp fun {a b} jk=>?_;rw [Rq,if_neg (fun z:a.1=b.1=>fC jk z.symm)];exact lt_asymm jk
 ·exact h2.imp fun {a b} jk (z:a.1=b.1)=>fC jk z.symm
theorem vO {l:Lad} (h:l.Ok B):fw l .nil=l:=by
 unfold fw;rw [show l.ps++(Lad.nil).ps=l.ps by simp [ps],<- ze (List.Perm.refl _) (rT h).1,zjz (rT h).2,aC]
theorem v8 (acc:List (Lad × Int)) (p:Lad × Int):tot (eY acc p)<=tot acc+(1+p.1.parts):=by
 rcases List.eq_nil_or_concat acc with h | ⟨a,z,h⟩
 ·subst h; simp [xS,tot]
 ·subst h;rw [List.concat_eq_append,pI];by_cases hz:z.1=p.1
  ·rw [if_pos hz,aX,aX]; simp only [tot]; rw [hz]; omega
  ·rw [if_neg hz,aX,aX]; simp only [tot]; omega
theorem pN (bs:List (Lad × Int)):tot (jn bs)<=tot bs:=by
 have key:∀ (bs acc:List (Lad × Int)),tot (bs.foldl eY acc)<=tot acc+tot bs:=by
  intro bs
  induction bs with
  | nil=>intro acc; simp [tot]
  | cons x r ih =>
   intro acc;have h1:=ih (eY acc x);have h2:=v8 acc x;show tot (r.foldl eY (eY acc x))<=tot acc+(1+x.1.parts+tot r);omega
 have:=key bs [];simpa [jn,tot] using this
theorem pj (l k:Lad):(fw l k).parts<=l.parts+k.parts:=by
 unfold fw;rw [aU];have h1:=pN (lQ (l.ps++k.ps));rw [jG (bI _),aX] at h1;have h2:l.parts=tot l.ps:=by rw [<- aU,aC]
 have h3:k.parts=tot k.ps:=by rw [<- aU,aC]
 omega
theorem sP {l k:Lad} (hl:l.deep<=n) (hk:k.deep<=n):(fw l k).deep<=n:=by
 unfold fw;refine gR fun b hb=>?_;obtain ⟨q,hq,e⟩:=By _ b hb;rw [<- e];rcases Qw ((bI _).mem_iff.mp hq) with h | h
 ·exact b9 hl q h
 ·exact b9 hk q h
def dX (l:Lad) (m:Int):Lad:=if m=0 then .nil else ofPs (l.ps.map fun p=>(p.1,p.2*m))
theorem uZ (f:Int->Int):∀ bs:List (Lad × Int),tot (bs.map fun p=>(p.1,f p.2))=tot bs
 | []=>rfl
 | p::r=>by show 1+p.1.parts+tot _=1+p.1.parts+tot r; rw [uZ f r]
theorem gJ (l:Lad) (m:Int):(dX l m).parts<=l.parts:=by
 unfold dX
 split
 ·exact Nat.zero_le _
 ·rw [aU,uZ (fun x=>x*m),<- aU,aC]; exact Yc _
theorem gK {l:Lad} (m:Int) (h:l.deep<=n):(dX l m).deep<=n:=by
 unfold dX
 split
 ·exact Nat.zero_le _
 ·refine gR fun b hb=>?_;obtain ⟨p,hp,rfl⟩:=Qx hb;exact b9 h p hp
end Lad
def VI (K:Qn):Sp:=fun vs H Q _=>∃ (v u:V) (l k:Lad),vs=[v,u]/\LA K H v l/\LA K H u k/\l.deep<=30/\k.deep<=30/\l.parts<=800000/\k.parts<=800000/\∀ (x:V) (H':Hp),SB [] H H'->LA K H' x (l.fw k)->Q x H'
def QC (K:Qn):Sp:=fun vs H Q _=>∃ (v:V) (l:Lad) (m:Int),vs=[v,.int m]/\LA K H v l/\l.parts<=900000/\(∀ p ∈ l.ps,0<=p.2/\p.2 < 2 ^ 2000)/\0<=m/\m < 2 ^ 2000/\∀ (x:V) (H':Hp),SB [] H H'->LA K H' x (l.dX m)->Q x H'
namespace Lad
theorem bG (x:Lad):aK [] x=0:=rfl
theorem aE (e:Lad) (m:Int) (r:List (Lad × Int)) (x:Lad):aK ((e,m)::r) x=(if e=x then m else 0)+aK r x:=by
 unfold aK;rw [List.filter_cons];by_cases h:e=x
 ·simp [h]
 ·simp [h]
theorem bQ (as bs:List (Lad × Int)) (x:Lad):aK (as++bs) x=aK as x+aK bs x:=by
 unfold aK;rw [List.filter_append,Yj,List.sum_append]
theorem fA {bs:List (Lad × Int)} {x:Lad} (h:∀ p ∈ bs,p.1 ≠ x):aK bs x=0:=by
 unfold aK;have:bs.filter (fun p=>decide (p.1=x))=[]:=by
  rw [List.filter_eq_nil_iff];intro p hp;simpa using h p hp
 rw [this]; rfl
theorem je {as bs:List (Lad × Int)} (h:as.Perm bs) (x:Lad):aK as x=aK bs x:=by
 induction h with
 | nil=>rfl
 | cons p _ ih=>obtain ⟨e,m⟩:=p; rw [aE,aE,ih]
 | swap p q l=>obtain ⟨e,m⟩:=p; obtain ⟨e',m'⟩:=q; rw [aE,aE,aE,aE]; omega
 | trans _ _ h1 h2=>omega
theorem rJ (acc:List (Lad × Int)) (p:Lad × Int) (x:Lad):aK (eY acc p) x=aK acc x+(if p.1=x then p.2 else 0):=by
 obtain ⟨e,m⟩:=p;rcases List.eq_nil_or_concat acc with h | ⟨a,z,h⟩
 ·subst h; rw [xS,aE,bG]; show (if e=x then m else 0)+0=0+(if e=x then m else 0); omega
 ·subst h;obtain ⟨e',m'⟩:=z;rw [List.concat_eq_append,pI];by_cases hz:e'=e
  ·rw [if_pos hz,bQ,bQ,aE,aE,bG];subst hz;by_cases hx:e'=x
   ·simp only [if_pos hx]; omega
   ·simp only [if_neg hx]; omega
  ·rw [if_neg hz,bQ,bQ,aE,aE,bG]; show _=_+(if e=x then m else 0); omega
theorem lY (bs:List (Lad × Int)) (x:Lad):aK (jn bs) x=aK bs x:=by
 have key:∀ (bs acc:List (Lad × Int)),aK (bs.foldl eY acc) x=aK acc x+aK bs x:=by
  intro bs
  induction bs with
  | nil=>intro acc; show aK acc x=_; rw [bG]; omega
  | cons p r ih =>
   intro acc;obtain ⟨e,m⟩:=p;show aK (r.foldl eY (eY acc (e,m))) x=_;rw [ih,rJ,aE];show _+(if e=x then m else 0)+_=_;omega
 have:=key bs [];rw [bG] at this;unfold jn;omega
theorem oz (f:Int->Int) (hf:f 0=0) (KJ:∀ a b,f (a+b)=f a+f b):∀ (bs:List (Lad × Int)) (x:Lad),aK (bs.map fun p=>(p.1,f p.2)) x=f (aK bs x)
 | [],x=>by show aK [] x=_; rw [bG,hf]
 | (e,m)::r,x=>by
  show aK ((e,f m)::r.map _) x=_;rw [aE,aE,oz f hf KJ r x,KJ];by_cases h:e=x
  ·rw [if_pos h,if_pos h]
  ·rw [if_neg h,if_neg h,hf]
abbrev S (l:Lad) (x:Lad):Int:=aK l.ps x
section
variable {B C:Int}
theorem sS {e:Lad} {r:Lad} (h:(Lad.cons e m r).Ok B):S (.cons e m r) e=m:=by
 show aK ((e,m)::r.ps) e=m;rw [aE,if_pos rfl,fA fun p hp=>fC (h.2.2.2.2 p hp)];omega
theorem fW {e:Lad} {r x:Lad} (h:(Lad.cons e m r).Ok B) (hx:e.lt x=true):S (.cons e m r) x=0:=by
 show aK ((e,m)::r.ps) x=0;rw [aE,if_neg (fC hx),fA fun p hp=>fC (lt_trans _ _ _ (h.2.2.2.2 p hp) hx)]
 rfl
theorem iS {l:Lad} (h:l.Ok B) {p:Lad × Int} (hp:p ∈ l.ps):S l p.1=p.2:=by
 induction l with
 | nil=>cases hp
 | cons e m r _ ih =>
  rcases Qv hp with hp | hp
  ·subst hp; exact sS h
  ·show aK ((e,m)::r.ps) p.1=p.2;rw [aE,if_neg (fun z=>fC (h.2.2.2.2 p hp) z.symm)];have:=ih h.2.2.2.1 hp;show 0+S r p.1=_;omega
theorem zC {l x:Lad} (h:∀ p ∈ l.ps,p.1 ≠ x):S l x=0:=fA h
theorem c6 {l:Lad} (h:l.Ok B) (x:Lad):(S l x=0/\∀ p ∈ l.ps,p.1 ≠ x)\/(∃ m,(x,m) ∈ l.ps/\S l x=m/\1<=m/\m < B):=by
 by_cases hx:∃ p ∈ l.ps,p.1=x
 ·obtain ⟨p,hp,rfl⟩:=hx;have:=(bj.mp h).1 p hp;exact .inr ⟨p.2,hp,iS h hp,this.2⟩
 ·have F7:∀ p ∈ l.ps,p.1 ≠ x:=fun p hp z=>hx ⟨p,hp,z⟩;exact .inl ⟨zC F7,F7⟩
theorem fG {l:Lad} (h:l.Ok B) (x:Lad):0<=S l x:=by
 rcases c6 h x with h1 | ⟨m,_,h1,h2,_⟩ <;> omega
def Gp (l k:Lad):Prop:=∃ x,S l x < S k x/\∀ y,x.lt y=true->S l y=S k y
theorem oI {l k:Lad}:∀ (_:l.Ok B) (_:k.Ok C),l.lt k=true->Gp l k:=by
 induction l generalizing k with
 | nil =>
  intro hl hk h;cases k with
  | nil=>rw [lt_nil_nil] at h; cases h
  | cons e m r =>
   refine ⟨e,?_,fun y hy=>?_⟩
   ·rw [sS hk]; show aK [] e < m; rw [bG]; have:=hk.2.1; omega
   ·rw [fW hk hy]; rfl
 | cons e m r _ ih =>
  intro hl hk h;cases k with
  | nil=>rw [lt_cons_nil] at h; cases h
  | cons e' m' r' =>
   rw [fQ] at h;by_cases he:e=e'
   ·subst he;rw [if_pos rfl] at h;by_cases hm:m=m'
    ·subst hm;rw [if_pos rfl] at h;obtain ⟨x,h1,h2⟩:=ih hl.2.2.2.1 hk.2.2.2.1 h;refine ⟨x,?_,fun y hy=>?_⟩
     ·show aK ((e,m)::r.ps) x < aK ((e,m)::r'.ps) x;rw [aE,aE];have:aK r.ps x < aK r'.ps x:=h1;omega
     ·show aK ((e,m)::r.ps) y=aK ((e,m)::r'.ps) y;rw [aE,aE];have:aK r.ps y=aK r'.ps y:=h2 y hy;omega
    ·rw [if_neg hm] at h;exact ⟨e,by rw [sS hl,sS hk]; exact Ks h,fun y hy=>by rw [fW hl hy,fW hk hy]⟩
   ·rw [if_neg he] at h;refine ⟨e',?_,fun y hy=>?_⟩
    ·rw [fW hl h,sS hk]; have:=hk.2.1; omega
    ·rw [fW hl (lt_trans _ _ _ h hy),fW hk hy]
theorem Gp.asymm {l k:Lad} (h:Gp l k) (h2:Gp k l):False:=by
 obtain ⟨x,a1,a2⟩:=h;obtain ⟨y,b1,b2⟩:=h2;by_cases e:x=y
 ·subst e; omega
 ·cases hxy:x.lt y with
  | true=>have:=a2 y hxy; omega
  | false=>have:=b2 x (fb x y e hxy); omega
theorem lt_iff {l k:Lad} (hl:l.Ok B) (hk:k.Ok C):l.lt k=true ↔ Gp l k:=by
 constructor
 ·exact oI hl hk
 ·intro h;cases e:l.lt k with
  | true=>rfl
  | false =>
   by_cases vw:l=k
   ·subst vw; obtain ⟨x,h1,_⟩:=h; omega
   ·exact (Gp.asymm h (oI hk hl (fb l k vw e))).elim
theorem ext {l k:Lad} (hl:l.Ok B) (hk:k.Ok C) (h:∀ x,S l x=S k x):l=k:=by
 by_cases e:l=k
 ·exact e
 ·cases vw:l.lt k with
  | true=>obtain ⟨x,h1,_⟩:=oI hl hk vw; have:=h x; omega
  | false=>obtain ⟨x,h1,_⟩:=oI hk hl (fb l k e vw); have:=h x; omega
theorem vm {bs:List (Lad × Int)} (h:bs.Pairwise (fun a b=>a.1.lt b.1=false)):(jn bs).Pairwise (fun p q=>q.1.lt p.1=true):=by
 have key:∀ (bs acc:List (Lad × Int)),acc.Pairwise (fun p q=>q.1.lt p.1=true)->(∀ a ∈ acc,∀ b ∈ bs,a.1.lt b.1=false)->bs.Pairwise (fun a b=>a.1.lt b.1=false)->(bs.foldl eY acc).Pairwise (fun p q=>q.1.lt p.1=true):=by
  intro bs
  induction bs with
  | nil=>intro acc h _ _; exact h
  | cons p r ih =>
   intro acc h1 h2 h3;obtain ⟨TB,Tz⟩:=List.pairwise_cons.mp h3;refine ih (eY acc p) ?_ ?_ Tz
   ·rcases List.eq_nil_or_concat acc with h | ⟨a,z,h⟩
    ·subst h; rw [xS]; exact List.pairwise_singleton _ _
    ·subst h;rw [List.concat_eq_append] at h1 h2 ⊢;rw [pI];obtain ⟨a1,_,a3⟩:=List.pairwise_append.mp h1;by_cases hz:z.1=p.1
     ·rw [if_pos hz,List.pairwise_append];refine ⟨a1,List.pairwise_singleton _ _,fun x hx y hy=>?_⟩;have AS:y=(p.1,z.2+p.2):=by simpa using hy
      subst AS;show p.1.lt x.1=true;rw [<- hz]; exact a3 x hx z (by simp)
     ·rw [if_neg hz,List.pairwise_append];refine ⟨h1,List.pairwise_singleton _ _,fun x hx y hy=>?_⟩;have AS:y=p:=by simpa using hy
      subst AS;have Jn:y.1.lt z.1=true:=fb _ _ hz (h2 z (by simp) y (bM ..));rcases Qw hx with hx | hx
      ·exact lt_trans _ _ _ Jn (a3 x hx z (by simp))
      ·have F7:x=z:=by simpa using hx
       subst F7; exact Jn
   ·intro a ha b hb;have qV:=TB b hb;rcases List.eq_nil_or_concat acc with h | ⟨c,z,h⟩
    ·subst h;rw [xS] at ha;have:a=p:=by simpa using ha
     subst this; exact qV
    ·subst h;rw [List.concat_eq_append] at ha h2;rw [pI] at ha;by_cases hz:z.1=p.1
     ·rw [if_pos hz] at ha;rcases Qw ha with ha | ha
      ·exact h2 a (jA _ ha) b (bR _ hb)
      ·have:a=(p.1,z.2+p.2):=by simpa using ha
       subst this; exact qV
     ·rw [if_neg hz] at ha;rcases Qw ha with ha | ha
      ·exact h2 a ha b (bR _ hb)
      ·have:a=p:=by simpa using ha
       subst this; exact qV
 exact key bs [] List.Pairwise.nil (by simp) h
theorem sL (bs:List (Lad × Int)):(lQ bs).Pairwise (fun a b=>a.1.lt b.1=false):=by
 refine (uL bs).imp fun {a b} jk=>?_;rw [Rq] at jk;by_cases h:a.1=b.1
 ·rw [h]; exact lt_irrefl _
 ·rw [if_neg h] at jk; exact jk
theorem fV (l k x:Lad):S (fw l k) x=S l x+S k x:=by
 show aK (ofPs (jn (lQ (l.ps++k.ps)))).ps x=_;rw [aQ,lY,je (bI _),bQ]
theorem uh {l:Lad} (h:l.Ok B) (hB:0<=B) (x:Lad):S l x<=B:=by
 rcases c6 h x with h1 | ⟨m,_,h1,h2,h3⟩ <;> omega
theorem jm {l k:Lad} (hl:l.Ok B) (hk:k.Ok C) (hB:1<=B) (hC:1<=C):(fw l k).Ok (B+C):=by
 have hd:(jn (lQ (l.ps++k.ps))).Pairwise (fun p q=>q.1.lt p.1=true):=vm (sL _);show (ofPs (jn (lQ (l.ps++k.ps)))).Ok (B+C);rw [fB];refine ⟨fun p hp=>?_,hd⟩;have hs:aK (jn (lQ (l.ps++k.ps))) p.1=p.2:=by
  have Gb:∀ (bs:List (Lad × Int)),bs.Pairwise (fun p q=>q.1.lt p.1=true)->∀ p ∈ bs,aK bs p.1=p.2:=by
   intro bs
   induction bs with
   | nil=>intro _ p hp; cases hp
   | cons q r ih =>
    intro Sj p hp;obtain ⟨e,m⟩:=q;obtain ⟨h1,h2⟩:=List.pairwise_cons.mp Sj;rw [aE];rcases Qv hp with hp | hp
    ·subst hp;rw [if_pos rfl,fA fun q hq=>fC (h1 q hq)];omega
    ·rw [if_neg (fun z=>fC (h1 p hp) z.symm),ih h2 p hp];omega
  exact Gb _ hd p hp
 have dM:p.2=S l p.1+S k p.1:=by
  rw [<- hs,lY,je (bI _),bQ]
 obtain ⟨q,hq,eq⟩:=By _ p hp;have qy:=(bI _).mem_iff.mp hq;have n1:=fG hl p.1;have n2:=fG hk p.1;have dZ:S l p.1 < B:=by rcases c6 hl p.1 with h1 | ⟨m,_,h1,h2,h3⟩ <;> omega
 have Ad:S k p.1 < C:=by rcases c6 hk p.1 with h1 | ⟨m,_,h1,h2,h3⟩ <;> omega
 have grow:∀ (e:Lad),e.Ok B->e.Ok (B+C):=fun e h=>h.mono (by omega);have K6:∀ (e:Lad),e.Ok C->e.Ok (B+C):=fun e h=>h.mono (by omega);rcases Qw qy with vq | vq
 ·have o:=(bj.mp hl).1 q vq;have sm:=iS hl vq;rw [eq] at sm o;exact ⟨grow _ o.1,by omega,by omega⟩
 ·have o:=(bj.mp hk).1 q vq;have sm:=iS hk vq;rw [eq] at sm o;exact ⟨K6 _ o.1,by omega,by omega⟩
def zg (k x:Lad):Bool:=k.ps.all fun p=>!x.lt p.1
theorem vN {k:Lad} (hk:k.Ok B) (x:Lad):zg k x=true ↔ ∀ y,x.lt y=true->S k y=0:=by
 unfold zg;rw [List.all_eq_true];constructor
 ·intro h y hy;refine zC fun p hp z=>?_;have:=h p hp;rw [z,hy] at this;cases this
 ·intro h p hp;cases e:x.lt p.1 with
  | false=>rfl
  | true =>
   have h1:=h p.1 e;rw [iS hk hp] at h1;have:=(bj.mp hk).1 p hp;omega
theorem sU {l k:Lad} (hk:k.Ok B) (x:Lad):S (gU l k) x=(if zg k x=true then S l x else 0)+S k x:=by
 cases k with
 | nil =>
  rw [fU];show S l x=(if zg .nil x=true then S l x else 0)+aK [] x;rw [bG,if_pos (show zg .nil x=true from rfl)]; omega
 | cons e m r =>
  have S0:zg (.cons e m r) x=!x.lt e:=by
   unfold zg;show (!x.lt e&&r.ps.all fun p=>!x.lt p.1)=_;cases h:x.lt e with
   | true=>rfl
   | false =>
    have:r.ps.all (fun p=>!x.lt p.1)=true:=by
     rw [List.all_eq_true];intro p hp;rw [le_trans (le_of_lt (hk.2.2.2.2 p hp)) h]; rfl
    rw [this]; rfl
  rw [gT];show aK (ofPs _).ps x=_;rw [aQ,bQ,aE,S0];show aK (l.ps.filter fun p=>e.lt p.1) x+((if e=x then aK l.ps e+m else 0)+aK r.ps x)=(if (!x.lt e)=true then aK l.ps x else 0)+aK ((e,m)::r.ps) x;rw [aE];have hf:aK (l.ps.filter fun p=>e.lt p.1) x=if e.lt x=true then aK l.ps x else 0:=by
   unfold aK;rw [List.filter_filter];by_cases h:e.lt x=true
   ·rw [if_pos h]
    congr 2
    refine List.filter_congr fun p hp=>?_;by_cases eT:p.1=x
    ·simp [eT,h]
    ·simp [eT]
   ·rw [if_neg h];have:l.ps.filter (fun p=>decide (p.1=x)&&e.lt p.1)=[]:=by
     rw [List.filter_eq_nil_iff];intro p hp hc;rw [Bool.and_eq_true] at hc;have h1:p.1=x:=Ks hc.1;rw [h1] at hc;exact h hc.2
    rw [this]; rfl
  rw [hf];by_cases hx:e=x
  ·subst hx;rw [lt_irrefl];simp;omega
  ·cases h1:e.lt x with
   | true =>
    rw [lt_asymm h1];simp [hx]
   | false =>
    rw [fb e x hx h1];simp [hx]
theorem jo {l k:Lad} (hl:l.Ok B) (hk:k.Ok C) (hB:1<=B) (hC:1<=C):(gU l k).Ok (B+C):=by
 cases k with
 | nil=>rw [fU]; exact hl.mono (by omega)
 | cons e m r =>
  rw [gT,fB];obtain ⟨h1,h2,h3,h4,h5⟩:=hk;obtain ⟨a1,a2⟩:=bj.mp hl;obtain ⟨b1,b2⟩:=bj.mp h4;have n1:=fG hl e;have dZ:S l e < B:=by rcases c6 hl e with g1 | ⟨m,_,g1,g2,g3⟩ <;> omega
  constructor
  ·intro p hp;rcases Qw hp with hp | hp
   ·have:=a1 p (List.mem_filter.mp hp).1;exact ⟨this.1.mono (by omega),this.2.1,by omega⟩
   ·rcases Qv hp with hp | hp
    ·subst hp;exact ⟨h1.mono (by omega),by show 1<=S l e+m; omega,by show S l e+m < B+C; omega⟩
    ·have:=b1 p hp;exact ⟨this.1.mono (by omega),this.2.1,by omega⟩
  ·rw [List.pairwise_append,List.pairwise_cons];refine ⟨a2.sublist List.filter_sublist,⟨h5,b2⟩,fun a ha b hb=>?_⟩;have Zl:=(List.mem_filter.mp ha).2;rcases Qv hb with hb | hb
   ·subst hb; exact Zl
   ·exact lt_trans _ _ _ (h5 b hb) Zl
theorem sO {b c:Lad} (hb:b.Ok B) (hc:c.Ok C) {x:Lad} (h:∀ y,x.lt y=true->S b y=S c y):zg b x=zg c x:=by
 rw [Bool.eq_iff_iff,vN hb,vN hc];exact ⟨fun g y hy=>by rw [<- h y hy]; exact g y hy,fun g y hy=>by rw [h y hy]; exact g y hy⟩
theorem zq {a b c:Lad} (ha:a.Ok B) (hb:b.Ok C) (hc:c.Ok D) (hB:1<=B) (hC:1<=C) (hD:1<=D) (h:b.lt c=true):(gU a b).lt (gU a c)=true:=by
 rw [lt_iff (jo ha hb hB hC) (jo ha hc hB hD)];obtain ⟨x,h1,h2⟩:=oI hb hc h;refine ⟨x,?_,fun y hy=>?_⟩
 ·rw [sU hb,sU hc,sO hb hc h2]; omega
 ·rw [sU hb,sU hc,sO hb hc (x:=y) (fun z hz=>h2 z (lt_trans _ _ _ hy hz)),h2 y hy]
theorem zj {a b c:Lad} (ha:a.Ok B) (hb:b.Ok C) (hc:c.Ok D) (hB:1<=B) (hC:1<=C) (hD:1<=D) (h:b.lt c=true):(fw a b).lt (fw a c)=true:=by
 rw [lt_iff (jm ha hb hB hC) (jm ha hc hB hD)];obtain ⟨x,h1,h2⟩:=oI hb hc h;exact ⟨x,by rw [fV,fV]; omega,fun y hy=>by rw [fV,fV,h2 y hy]⟩
theorem vQ (l:Lad) (m:Int) (x:Lad):S (dX l m) x=S l x*m:=by
 unfold dX;by_cases h:m=0
 ·rw [if_pos h,h]; show aK [] x=_; rw [bG,Int.mul_zero]
 ·rw [if_neg h];show aK (ofPs _).ps x=_;rw [aQ];exact oz (fun a=>a*m) (Int.zero_mul m) (fun a b=>Int.add_mul a b m) l.ps x
theorem fZ {l:Lad} (hl:l.Ok B) (hm:0<=m):(dX l m).Ok (B*m+B):=by
 unfold dX;by_cases h:m=0
 ·rw [if_pos h]; trivial
 ·rw [if_neg h,fB];obtain ⟨a1,a2⟩:=bj.mp hl;constructor
  ·intro p hp;obtain ⟨q,hq,rfl⟩:=Qx hp;obtain ⟨g1,g2,g3⟩:=a1 q hq;have hB:0<=B:=by omega
   have b1:q.2*m<=B*m:=Int.mul_le_mul_of_nonneg_right (by omega) hm;have b2:1*1<=q.2*m:=Int.mul_le_mul g2 (by omega) (by omega) (by omega);have b3:0<=B*m:=Int.mul_nonneg hB hm;exact ⟨g1.mono (by omega),by show 1<=q.2*m; omega,by show q.2*m < B*m+B; omega⟩
  ·rw [List.pairwise_map];exact a2
end
end Lad
namespace Lad
section
variable {B C:Int}
def rst:Lad->Lad->Lad
 | .nil,k=>k
 | .cons _ _ _,.nil=>.nil
 | .cons e m r,.cons e' m' r'=>if e=e' then (if m=m' then rst r r' else .cons e (m'-m) r') else .cons e' m' r'
theorem yh (e e':Lad) (m m':Int) (r r':Lad):rst (.cons e m r) (.cons e' m' r')=if e=e' then (if m=m' then rst r r' else .cons e (m'-m) r') else .cons e' m' r':=by rw [rst]
theorem nil_le (k:Lad):k ≠ .nil->Lad.lt .nil k=true:=by
 cases k with
 | nil=>intro h; exact absurd rfl h
 | cons e m r=>intro _; exact lt_nil_cons e m r
theorem mY (p q:Lad × Int):PyData.eqv (aB p) (aB q)=(decide (p.1=q.1)&&decide (p.2=q.2)):=by
 simp [aB,PyData.eqv,PyData.eqvAll,Lad.bc,ib]
theorem dF {p:Lad × Int} (h:p.1.deep<=29):SeqAt.shaped (aB p)=true:=by
 have h1:=dv p;have h2:=aH (l:=p.1) (by omega);unfold SeqAt.shaped at h2 ⊢;rw [Bool.and_eq_true] at h2 ⊢;refine ⟨?_,by simp; omega⟩;simp [aB,PyData.canLay0,PyData.canLayAll0,h2.1]
end
end Lad
structure Own (K:Qn) (mg:Str->Option Value) (x:Str) (C:Addr):Prop where
 gC:mg x=some (.ref C)
 q:PySem.W.excIn K C He.veBase "ValueError.__new__"=true
 k:PySem.W.keepIn K (.ref C)=true
 s:PySem.W.subIn K (.ref C) (.type "BaseException")=some true
 t:PySem.W.typeIn K (.ref C)=some (.type "type")
structure GotX (P:Program) (w:World) (K:Qn) (mg:Str->Option Value) (base:Heap) (x:Str) (ps:List Str) (k:Nat) (sp:Sp):Prop where
 ex:∃ (f:Addr) (fd:FuncData),FnOk P w K mg base (L2.CX P w) k f fd ps sp/\PySem.W.keepIn K (.ref f)=true/\Binds K fd ps []/\mg x=some (.ref f)
section
variable {X:Cx} {x:Str} {ps:List Str} {k:Nat} {sp:Sp} {e:Expr} {es:List Expr} {t:TA} {p pos:Pos}
theorem NW (G:GotX X.prog X.w X.K X.mg X.base x ps k sp) (hr:Room k X.A) (hg:Gl X x) (ha:PA X (e::es) t) (yS:(x == ("__debug__":Str))=false:=by decide) (he:starEach (e::es) X.env=(false,eval e X.env)::starEach es X.env:=by rfl) (fy:(backTo pos (starEach es X.env)).any (·.1)=false:=by rfl) :
  PE X (.Call (.Name x p) (e::es) [] pos) (tCall sp [] E0 t):=by
 obtain ⟨f,fd,h1,h2,h3,h4⟩:=G.ex;exact pe_call h1 hr hg h4 h2 h3 .nil passL ha yS he fy
theorem tH {W:WX} (G:GotX X.prog X.w X.K X.mg X.base x ps k sp) (hr:Room k X.A) (hg:Gl X x) (tk:Takes X W) (ha:PA X (e::es) t) (yS:(x == ("__debug__":Str))=false:=by decide) (he:starEach (e::es) X.env=(false,eval e X.env)::starEach es X.env:=by rfl) (fy:(backTo pos (starEach es X.env)).any (·.1)=false:=by rfl) :
  PE X (.Call (.Name x p) (e::es) [] pos) (tCallS sp (WE W) t):=by
 obtain ⟨f,fd,h1,h2,h3,h4⟩:=G.ex;exact pe_callS h1 hr hg h4 h2 h3 (fun σ=>passAt tk σ) ha yS he fy
end
abbrev NG:Type:=He.AlD × Bool
def Pp (K:Qn) (D:Addr):Bool :=
 He.eqO (PySem.W.findIn K (.ref D) "__getattribute__") (some (some (.builtin "BaseException.__getattribute__")))&&(He.eqO (PySem.W.findIn K (.ref D) "__getattr__") (some none)&&(decide (PySem.W.subIn K (.ref D) (.type "BaseException")=some true)&&(PySem.W.hasDictIn K D&&(He.eqO (PySem.W.findIn K (.ref D) "__class__") (some (some (.builtin "object.__class__"))) &&
 (He.eqO (PySem.W.specialIn K (.builtin "object.__class__") "__get__") (some (some (.builtin "getset_descriptor.__get__")))&&(decide (PySem.W.takesIn K (.builtin "object.__class__")=some true)&&decide (PySem.W.mroIn K D (.type "object")=some true)))))))
theorem zdl {D:Addr} (h:Pp K D=true):ExcC K D:=by
 obtain ⟨h1,h⟩:=He.ba h;obtain ⟨h2,h⟩:=He.ba h;obtain ⟨h3,h⟩:=He.ba h;obtain ⟨h4,h⟩:=He.ba h;obtain ⟨h5,h⟩:=He.ba h;obtain ⟨h6,h⟩:=He.ba h;obtain ⟨h7,h8⟩:=He.ba h;exact ⟨He.eqO_ok h1,He.eqO_ok h2,Ks h3,h4,He.eqO_ok h5,He.eqO_ok h6,Ks h7,Ks h8⟩
section
variable {J:It} {n:Nat} {G:Hp->Prop} {Y:Nat->Hp->V->Hp->Prop}
theorem DD (w:Walk J n G Y) {H0:Hp} {Qd:Hp->Prop} {body:(Hp->Prop)->V->Hp->Prop} (Pv:Nat->Hp->Prop) (h0:Pv 0 H0) (hG:∀ i H,i<=n->Pv i H->G H)
  (hs:∀ i x H H',i < n->Pv i H->Y i H x H'->body (Pv (i+1)) x H') (hd:∀ H,Pv n H->Qd H) :
  ∃ W:Nat->Nat->Hp->Prop,(∃ m,W 0 m H0)/\∀ i m H,W i m H ->
   (J.stop i H/\Qd H)\/(J.go i H/\∃ Nx:Hp->Prop,(∀ H',Nx H'->∃ m',m' < m/\W (i+1) m' H')/\∀ x H',J.yld i H x H'->body Nx x H'):=by
 refine ⟨fun i m H=>m=n-i/\i<=n/\Pv i H,⟨n,by simp,Nat.zero_le _,h0⟩,?_⟩
 rintro i m H ⟨rfl,hi,p⟩
 have q:=hG i H hi p;by_cases dZ:i < n
 ·exact .inr ⟨w.goes i H dZ q,Pv (i+1),fun H' p'=>⟨n-(i+1),by omega,Ja,dZ,p'⟩,fun x H' y=>hs i x H H' dZ p (w.yields i H x H' dZ q y)⟩
 ·have e:i=n:=by omega
  subst e;exact .inl ⟨w.stops H q,hd H p⟩
end
section
variable {prog:Program} {w:World} {A:Around} {E:Value->Shared->Prop} {s:Shared} {β:Type} {vs:List Value} {bs:List β} {enc:β->PyData} {R:Value->β->Prop}
theorem XN {t:Addr} {kw:List (Str × Value)} {b:Bool} {Q:Value->Shared->Prop} (AY:∀ a,Builtin.«list.sort» ⟨[.ref a],kw⟩=Builtin.«list.sort» ⟨[.ref a],[(Str.ofString "reverse",.bool b)]⟩) (sD:argsOk "sorted" ⟨[.ref t],kw⟩) (xK:∀ x,argsOk "list.sort" ⟨[.ref x],kw⟩)
  (ht:PlainL s.heap t vs.toArray) (e:EachIs R vs bs) (er:EachIs (fun v b=>∃ as,Reads s.heap v (enc b) as) vs bs) (oR:AllAlike (bs.map enc)) (hk:Sortable (bs.map enc)) (hL:bs.length<=sizeLine)
  (hu:∀ b,b ∈ bs->A.units+2+(enc b).depth < cLine)
  (h:∀ (out:List Value) (h' h2:Heap) (n:Nat),(∀ b o,s.heap.get? b=some o->h'.get? b=some o)->(∀ b o,h'.get? b=some o->h2.get? b=some o)->h2.get? h'.objs.size=some (seqObj "list" out.toArray n)->out.length=bs.length->EachIs R out (bs.mergeSort (dataLe b enc))->Q (.ref h'.objs.size) { s with heap:=h2 }) :
  wpAny (model prog w) A (call (.builtin "sorted") [.ref t] kw) Q E s:=by
 have hlen:vs.length<=sizeLine:=by rw [e.length]; exact hL
 obtain ⟨o,n0,ho,hc,_,hd⟩:=id ht;refine call_function_entry_kw kind_sorted plain_sorted entry_sorted sD ?_;unfold Builtin.«sorted»;refine wpAny_bind (m:=checkCount "sorted" 1 1 _) (wpAny_pure ?_);refine Ke (wpAny_collect_seq t (.inl rfl) ho hc hd (fun h' xJ=>?_) (by rw [List.size_toArray]; exact hlen));refine Ke (wpAny_newList ?_ hlen);show wpAny _ _ _ _ _ { s with heap:=h'.push (seqObj "list" vs.toArray 0) };have uH:(h'.push (seqObj "list" vs.toArray 0)).get? h'.objs.size=some (seqObj "list" vs.toArray 0):=Heap.get?_push_size _ rfl;refine Ke (wpAny_holding (wpAny_call_entry_kw slot_list_sort ⟨_,uH,Ja⟩ entry_list_sort ?body (xK _)))
 case body =>
  rw [AY];have old:∀ b o,h'.get? b=some o->(sortingHeap (h'.push (seqObj "list" vs.toArray 0)) h'.objs.size vs).get? b=some o:=fun b o q=>sortingHeap_old (Nat.ne_of_lt (Heap.lt_size q)) (Heap.get?_push_of_some _ q);have Mo:EachIs (fun v b=>∃ as,Reads (sortingHeap (h'.push (seqObj "list" vs.toArray 0)) h'.objs.size vs) v (enc b) as) vs bs:=er.mono fun _ _ ⟨as,r⟩=>⟨as,PyProof.Rows.Reads.keeps (fun b o q=>old b o (xJ b o q)) r⟩;refine list_sort_rev_vals (s:={ s with heap:=h'.push (seqObj "list" vs.toArray 0) }) (κ:=dataKind (sortingHeap (h'.push (seqObj "list" vs.toArray 0)) h'.objs.size vs) (bs.map enc)) uH (SortsAt.data (s:={ s with heap:=sortingHeap (h'.push (seqObj "list" vs.toArray 0)) h'.objs.size vs }) (each_map (R:=fun v d=>∃ as,Reads (sortingHeap (h'.push (seqObj "list" vs.toArray 0)) h'.objs.size vs) v d as) enc Mo) oR hk (bound_map hu)) hlen ?_;refine ⟨_,Ja,wpAny_pure ⟨_,Ja,?_⟩⟩;obtain ⟨n2,vr⟩:=sortedHeap_at (out:=(sortVals (dataKind (sortingHeap (h'.push (seqObj "list" vs.toArray 0)) h'.objs.size vs) (bs.map enc)) b vs vs).toArray) uH;refine h _ h' _ n2 xJ (fun b o q=>?_) vr (by rw [sortVals_length b rfl]; exact e.length) (sortVals_data b e Mo oR);rw [sortedHeap_old (Nat.ne_of_lt (Heap.lt_size q)) (by rw [size_push']; exact Nat.lt_succ_of_lt (Heap.lt_size q))];exact Heap.get?_push_of_some _ q
end
def Qh (K:Qn) {β:Type} (enc:β->PyData) (b:Bool) (vs:List V) (H:Hp) (Q:VK):Prop:=∃ (a:Addr) (xs:List V) (bs:List β),vs=[V.ref a]/\SqL K H a xs/\Bears K H enc xs bs/\AllAlike (bs.map enc)/\Sortable (bs.map enc)/\bs.length<=10000000/\(∀ b ∈ bs,(enc b).depth<=100) /\
 ∀ (p:Addr) (ys:List V),H p=none->Bears K H enc ys (bs.mergeSort (dataLe b enc))->Q (.ref p) (upd H p (.lst ys))
section
variable {X:Cx}
theorem XH {β:Type} {enc:β->PyData} {b:Bool} {kw:List (Str × Value)} (hu:X.A.units+110 < cLine) (AY:∀ a,Builtin.«list.sort» ⟨[.ref a],kw⟩=Builtin.«list.sort» ⟨[.ref a],[(Str.ofString "reverse",.bool b)]⟩) (sD:∀ t,argsOk "sorted" ⟨[.ref t],kw⟩) (xK:∀ x,argsOk "list.sort" ⟨[.ref x],kw⟩)
  {pins:List (Addr × Obj)} {s:Shared} {σ:L2.St} {H:Hp} {vs:List V} {us:List Value} {Q:VK} (I:Inv X pins σ H s) (r:Vals vs us) (h:Qh X.K enc b vs H Q):wpAny (model X.prog X.w) X.A (call (.builtin "sorted") us kw) (EP X pins σ Q) X.xe s:=by
 obtain ⟨a,xs,bs,rfl,hs,hb,oR,BO,hl,hd,q⟩:=h;obtain ⟨cf,rv,D4,_⟩:=I.list hs;rw [Vals.ref1 r];obtain ⟨e1,e2⟩:=Fy I hb rv;refine XN (vs:=cf) (bs:=bs) (enc:=enc) (R:=fun u b=>∃ v,RelV v u/\Dp X.K H v (enc b)) AY (sD _) xK D4 e1 e2 oR BO (by rw [sizeLine_eq]; omega) (fun b m=>by have:=hd b m; omega) fun out h' h2 n k1 k2 uH ho h1=>?_;obtain ⟨ys,g2,g3⟩:=Ie h1;have I':Inv X pins σ H { s with heap:=h' }:=I.kept (t':=s.toks) k1;have hlen:ys.length<=sizeLine:=by rw [g2.length,ho,sizeLine_eq]; omega
 exact ⟨.ref _,upd H h'.objs.size (.lst ys),I'.laid (t':=s.toks) (fun b o e=>k2 b o e) (Yc _) ⟨hlen,out,n,g2,uH⟩,Ja,q _ ys (I'.hok.fresh (Yc _)) g3⟩
theorem zb3 {β:Type} (enc:β->PyData) (hu:X.A.units+110 < cLine):CallR X (.builtin "sorted") (Qh X.K enc false):=by
 intro pins s σ H vs us Q I r h;exact XH (kw:=[]) hu plain_is_rev (fun _=>args_sorted1 _) (fun _=>args_list_sort _) I r h
theorem za6 {β:Type} (enc:β->PyData) {b:Bool} (hu:X.A.units+110 < cLine):CallRK X (.builtin "sorted") [Str.ofString "reverse"] (fun vs zs H Q=>zs=[.bl b]/\Qh X.K enc b vs H Q):=by
 intro pins s σ H vs zs us ws Q I r rz h;obtain ⟨rfl,h⟩:=h;obtain ⟨w1,rfl,e1⟩:=vals1 rz;obtain rfl:w1=Value.bool b:=e1;exact XH hu (fun _=>rfl) (fun _=>args_sorted_rev _ _) (fun _=>args_list_sort_rev _ _) I r h
end
namespace Lad
def alh:Lad->Lad->Nat
 | .cons e m r,.cons e' m' r'=>if e=e'/\m=m' then 1+alh r r' else 0
 | _,_=>0
theorem ng (e e':Lad) (m m':Int) (r r':Lad):alh (.cons e m r) (.cons e' m' r')=if e=e'/\m=m' then 1+alh r r' else 0:=by rw [alh]
theorem kX (k:Lad):alh .nil k=0:=by cases k <;> rfl
theorem kW (k:Lad):alh k .nil=0:=by cases k <;> rfl
theorem zt {l o:Lad} {p q:Lad × Int} (hp:l.ps[k]?=some p) (hq:o.ps[k]?=some q):alh (ofPs (l.ps.drop k)) (ofPs (o.ps.drop k))=if p.1=q.1/\p.2=q.2 then 1+alh (ofPs (l.ps.drop (k+1))) (ofPs (o.ps.drop (k+1))) else 0:=by
 have h1:k < l.ps.length:=(Kq hp).1;have h2:k < o.ps.length:=(Kq hq).1;have e1:l.ps[k]=p:=(Kq hp).2;have e2:o.ps[k]=q:=(Kq hq).2;rw [List.drop_eq_getElem_cons h1,List.drop_eq_getElem_cons h2,e1,e2];exact ng _ _ _ _ _ _
theorem Bq {l o:Lad} (h:¬ (k < l.ps.length/\k < o.ps.length)):alh (ofPs (l.ps.drop k)) (ofPs (o.ps.drop k))=0:=by
 rcases Nat.lt_or_ge k l.ps.length with h1 | h1
 ·rw [List.drop_eq_nil_of_le (show o.ps.length<=k by omega)]; exact kW _
 ·rw [List.drop_eq_nil_of_le h1]; exact kX _
theorem sQ:∀ l o:Lad,alh l o<=l.ps.length/\alh l o<=o.ps.length/\l.lt o=(ofPs (l.ps.drop (alh l o))).lt (ofPs (o.ps.drop (alh l o)))/\o.lt l=(ofPs (o.ps.drop (alh l o))).lt (ofPs (l.ps.drop (alh l o)))/\rst l o=rst (ofPs (l.ps.drop (alh l o))) (ofPs (o.ps.drop (alh l o)))/\(∀ p q,l.ps[alh l o]?=some p->o.ps[alh l o]?=some q->¬ (p.1=q.1/\p.2=q.2))
 | .nil,o=>by
  rw [kX];refine ⟨Nat.zero_le _,Nat.zero_le _,?_,?_,?_,fun p q h=>by simp [ps] at h⟩
  ·rw [List.drop_zero,List.drop_zero,aC,aC]
  ·rw [List.drop_zero,List.drop_zero,aC,aC]
  ·rw [List.drop_zero,List.drop_zero,aC,aC]
 | .cons e m r,.nil=>by
  rw [kW];refine ⟨Nat.zero_le _,Nat.zero_le _,?_,?_,?_,fun p q _ h=>by simp [ps] at h⟩
  ·rw [List.drop_zero,List.drop_zero,aC,aC]
  ·rw [List.drop_zero,List.drop_zero,aC,aC]
  ·rw [List.drop_zero,List.drop_zero,aC,aC]
 | .cons e m r,.cons e' m' r'=>by
  rw [ng];by_cases h:e=e'/\m=m'
  ·rw [if_pos h];obtain ⟨rfl,rfl⟩:=h;obtain ⟨h1,h2,h3,h4,h5,h6⟩:=sQ r r';have d1:(Lad.cons e m r).ps.drop (1+alh r r')=r.ps.drop (alh r r'):=by rw [Nat.add_comm]; rfl
   have d2:(Lad.cons e m r').ps.drop (1+alh r r')=r'.ps.drop (alh r r'):=by rw [Nat.add_comm]; rfl
   rw [d1,d2,<- h3,<- h4,<- h5];refine ⟨?_,?_,?_,?_,?_,?_⟩
   ·show _<=r.ps.length+1; omega
   ·show _<=r'.ps.length+1; omega
   ·rw [fQ,if_pos rfl,if_pos rfl]
   ·rw [fQ,if_pos rfl,if_pos rfl]
   ·rw [yh,if_pos rfl,if_pos rfl]
   ·rw [Nat.add_comm]; exact h6
  ·rw [if_neg h];refine ⟨Nat.zero_le _,Nat.zero_le _,?_,?_,?_,fun p q hp hq=>?_⟩
   ·rw [List.drop_zero,List.drop_zero,aC,aC]
   ·rw [List.drop_zero,List.drop_zero,aC,aC]
   ·rw [List.drop_zero,List.drop_zero,aC,aC]
   ·have e1:(e,m)=p:=Yd hp;have e2:(e',m')=q:=Yd hq;rw [<- e1,<- e2]; exact h
def aY (ls:List Lad):Lad:=ofPs (jn (lQ (ls.flatMap ps)))
theorem zi (l k:Lad):aY [l,k]=fw l k:=by simp [aY,fw,List.flatMap]
end Lad
def VS (K:Qn):Sp:=fun vs H Q _=>∃ (v u:V) (l k:Lad),vs=[v,u]/\LA K H v l/\LA K H u k/\l.deep<=29/\k.deep<=29/\l.parts<=1000000/\k.parts<=1000000/\Q (.int (Lad.alh l k:Nat)) H
def PR (K:Qn):Sp:=fun vs H Q _=>∃ (v:V) (l:Lad),vs=[v]/\LA K H v l/\∀ (x:V) (H':Hp),SB [] H H'->LA K H' x (.cons l 1 .nil)->Q x H'
def Pw (K:Qn):Sp:=fun vs H Q _=>∃ (a:Addr) (xs:List V) (ls:List Lad),vs=[.ref a]/\SqL K H a xs/\Bears K H Lad.enc xs ls/\(∀ l ∈ ls,l.deep<=30)/\(ls.flatMap Lad.ps).length<=1900000/\∀ (x:V) (H':Hp),SB [] H H'->LA K H' x (Lad.aY ls)->Q x H'
namespace Lad
section
variable {B C D:Int}
abbrev cT:Lad:=.cons .nil 1 .nil
theorem vh:Lad.num 1=cT:=if_neg (by decide)
theorem iD:cT.Ok 2:=⟨trivial,by decide,by decide,trivial,by simp [ps]⟩
theorem vP (e x:Lad):S (.cons e 1 .nil) x=if e=x then 1 else 0:=by
 show aK ((e,1)::[]) x=_;rw [aE,bG,Int.add_zero]
theorem Cy (e x:Lad):S (gU e cT) x=S e x+if Lad.nil=x then 1 else 0:=by
 rw [sU iD,vP];have:zg cT x=true:=by simp [zg,ps,eJ]
 rw [if_pos this]
theorem C8 {e:Lad} (he:e.Ok B) (hB:1<=B):e.lt (gU e cT)=true:=by
 rw [lt_iff he (jo he iD hB (by decide))];refine ⟨.nil,?_,fun y hy=>?_⟩
 ·rw [Cy,if_pos rfl]; omega
 ·rw [Cy,if_neg (fC hy),Int.add_zero]
theorem jJ (e x:Lad):∀ bs:List (Lad × Int),aK (bs.filter fun p=>e.lt p.1) x=if e.lt x=true then aK bs x else 0
 | []=>by simp [bG]
 | (a,m)::r=>by
  have ih:=jJ e x r;rw [List.filter_cons];by_cases h:e.lt a=true
  ·rw [if_pos h,aE,aE,ih];by_cases hx:e.lt x=true
   ·rw [if_pos hx,if_pos hx]
   ·have:a ≠ x:=fun z=>hx (z ▸ h);rw [if_neg hx,if_neg hx,if_neg this]; rfl
  ·rw [if_neg h,ih,aE];by_cases hx:e.lt x=true
   ·have:a ≠ x:=fun z=>h (z ▸ hx);rw [if_pos hx,if_pos hx,if_neg this,Int.zero_add]
   ·rw [if_neg hx,if_neg hx]
theorem oX {l:Lad} (h:l.Ok B) (g:Lad × Int->Bool):(ofPs (l.ps.filter g)).Ok B:=by
 have:=bj.mp h;rw [fB];exact ⟨fun p hp=>this.1 p (List.mem_filter.mp hp).1,this.2.filter _⟩
theorem gZ (l:Lad) (g:Lad × Int->Bool):(ofPs (l.ps.filter g)).parts<=l.parts:=by
 have h:=i9 g l.ps;rw [aU];have h2:tot l.ps=l.parts:=by rw [<- aU,aC]
 omega
theorem iO {l:Lad} (g:Lad × Int->Bool) (h:l.deep<=n):(ofPs (l.ps.filter g)).deep<=n :=
 gR fun b hb=>Nat.lt_of_lt_of_le (av l b (List.mem_filter.mp hb).1) h
def tu (l:Lad):Lad->Lad
 | .nil=>fw l cT
 | .cons e _ _=>fw (ofPs (l.ps.filter fun p=>e.lt p.1)) (.cons (gU e cT) 1 .nil)
theorem yn {e:Lad} (h:e.Ok B) (hB:2<=B):(Lad.cons e 1 .nil).Ok B:=⟨h,by decide,by omega,trivial,by simp [ps]⟩
theorem uN {l k:Lad} (hl:l.Ok B) (hk:k.Ok C) (hB:1<=B) (hC:1<=C):(tu l k).Ok (B+(C+2)):=by
 cases k with
 | nil=>exact (jm hl iD hB (by decide)).mono (by omega)
 | cons e m r=>exact jm (oX hl _) (yn (jo hk.1 iD hC (by decide)) (by omega)) hB (by omega)
theorem xo (l k:Lad):(tu l k).parts<=l.parts+k.parts+2:=by
 cases k with
 | nil=>have:=pj l cT; show (fw l cT).parts<=_; have h1:cT.parts=1:=rfl; omega
 | cons e m r =>
  have h1:=pj (ofPs (l.ps.filter fun p=>e.lt p.1)) (.cons (gU e cT) 1 .nil);have h2:=gZ l fun p=>e.lt p.1;have h3:=gS e cT;have h4:(Lad.cons (gU e cT) 1 .nil).parts=1+(gU e cT).parts+0:=rfl;have h5:(Lad.cons e m r).parts=1+e.parts+r.parts:=rfl;have h6:cT.parts=1:=rfl;show (fw _ _).parts<=_;omega
theorem ni {l k:Lad} (hl:l.deep<=n) (hk:k.deep<=n) (hn:2<=n):(tu l k).deep<=n:=by
 cases k with
 | nil=>exact sP hl (by show 1<=n; omega)
 | cons e m r =>
  refine sP (iO _ hl) ?_;have h1:1+e.deep<=n:=Yb (Nat.le_max_left _ _) hk;have h2:=iP (n:=n-1) (l:=e) (k:=cT) (by omega) (by show 1<=n-1; omega);show max (1+(gU e cT).deep) 0<=n;omega
theorem Cz (l e:Lad) (m:Int) (r x:Lad):S (tu l (.cons e m r)) x=(if e.lt x=true then S l x else 0)+if gU e cT=x then 1 else 0:=by
 show S (fw _ _) x=_;rw [fV,vP];show aK (ofPs _).ps x+_=_;rw [aQ,jJ]
theorem ED {l k:Lad} {n:Int} (hl:l.Ok B) (hk:k.Ok C) (hB:1<=B) (hC:1<=C) (hn:0<=n):(fw l (dX k n)).Ok (B+(C*n+C)):=by
 have:0<=C*n:=Int.mul_nonneg (by omega) hn;exact jm hl (fZ hk hn) hB (by omega)
theorem vR (l k x:Lad) (n:Int):S (fw l (dX k n)) x=S l x+S k x*n:=by rw [fV,vQ]
theorem EH {l k:Lad} {n:Int} (hl:l.Ok B) (hk:k.Ok C) (hB:1<=B) (hC:1<=C) (hn:0<=n):(fw l (dX k n)).lt (tu l k)=true:=by
 rw [lt_iff (ED hl hk hB hC hn) (uN hl hk hB hC)];cases k with
 | nil =>
  have e0:∀ x,S Lad.nil x=0:=fun x=>rfl;refine ⟨.nil,?_,fun y hy=>?_⟩
  ·rw [vR];show _ < S (fw l cT) .nil;rw [fV,vP,if_pos rfl,e0,Int.zero_mul]; omega
  ·rw [vR];show _=S (fw l cT) y;rw [fV,vP,if_neg (fC hy),e0,Int.zero_mul]
 | cons e m r =>
  have SR:=C8 hk.1 hC;refine ⟨gU e cT,?_,fun y hy=>?_⟩
  ·rw [vR,Cz,if_pos SR,if_pos rfl,fW hk SR,Int.zero_mul]; omega
  ·have Jp:=lt_trans _ _ _ SR hy;rw [vR,Cz,if_pos Jp,if_neg (fC hy),fW hk Jp,Int.zero_mul]
def spd:Lad->Lad->Lad
 | .cons e m r,.nil=>.cons e m r
 | .nil,.nil=>.nil
 | .nil,k=>k
 | .cons e _ _,k=>.cons (gU e k) 1 .nil
end
end Lad
def WH (K:Qn):Sp:=fun vs H Q _=>∃ (v u:V) (e:Lad) (m:Int) (r k:Lad),vs=[v,u]/\LA K H v (.cons e m r)/\LA K H u k/\(Lad.cons e m r).deep<=30/\k.deep<=30/\(Lad.cons e m r).parts<=900000/\k.parts<=900000/\∀ (x:V) (H':Hp),SB [] H H'->LA K H' x (Lad.spd (.cons e m r) k)->Q x H'
def V7 (K:Qn):Sp:=fun vs H Q _=>∃ (v u:V) (l k:Lad),vs=[v,u]/\LA K H v l/\LA K H u k/\l.deep<=29/\k.deep<=29/\l.parts<=390000/\k.parts<=390000/\∀ (x:V) (H':Hp),SB [] H H'->LA K H' x (l.tu k)->Q x H'
theorem CV (x:PyData):dataLt x x=false:=lex_irrefl (O:=itemOrd) _
theorem N8 {x y z:PyData} (h:dataLt x y=true) (h2:dataLt y z=true):dataLt x z=true:=lex_trans (O:=itemOrd) _ _ _ h h2
theorem zd3 {x y:PyData} (al:alike x y=true) (h:dataLt x y=false) (h2:dataLt y x=false):PyData.eqv x y=true:=by
 have e:keyToks x=keyToks y:=lex_total (O:=itemOrd) _ _ h h2;cases hq:PyData.eqv x y with
 | true=>rfl
 | false =>
  have t:=(toks_eqv x y al).2 hq [.inl 0] [.inl 1];rw [e] at t;have t2:PyProof.Rows.lexLt itemOrd (keyToks y++[.inl 0]) (keyToks y++[.inl 1])=PyProof.Rows.lexLt itemOrd [.inl 0] [.inl 1]:=lex_pre _ _ _;have t3:PyProof.Rows.lexLt itemOrd (keyToks y) (keyToks y)=false:=lex_irrefl (O:=itemOrd) _;rw [t2,t3,lex_one] at t
  revert t
  decide
theorem N5 {x y:PyData} (h:dataLt x y=true):dataLt y x=false:=by
 cases e:dataLt y x with
 | false=>rfl
 | true=>have:=N8 h e; rw [CV] at this; cases this
class Orderly {γ:Type} [DecidableEq γ] (enc:γ->PyData):Prop where
 al:∀ a b,alike (enc a) (enc b)=true
 eq:∀ a b,PyData.eqv (enc a) (enc b)=decide (a=b)
section
variable {γ:Type} [DecidableEq γ] {enc:γ->PyData} [O:Orderly enc]
theorem HW {a b:γ} (n6:a ≠ b) (h:dataLt (enc a) (enc b)=false):dataLt (enc b) (enc a)=true:=by
 cases e:dataLt (enc b) (enc a) with
 | true=>rfl
 | false =>
  have:=zd3 (O.al a b) h e;rw [O.eq] at this;exact absurd (Ks this) n6
theorem Vt {a b:γ} (h:dataLt (enc a) (enc b)=true):a ≠ b:=fun z=>by subst z; rw [CV] at h; cases h
instance:Orderly (la enc) where
 al a b:=by simp [la,alike,alikeAll,O.al a.1 b.1]
 eq a b:=by
  simp only [la,PyData.eqv,PyData.eqvAll,O.eq,Bool.and_true,ib];by_cases h:a=b
  ·subst h; simp
  ·rw [Qz h];rw [Bool.and_eq_false_iff];by_cases h1:a.1=b.1
   ·exact .inr (Qz fun h2=>h (Prod.ext h1 h2))
   ·exact .inl (Qz h1)
theorem zcw (p q:γ × Int):dataLt (la enc p) (la enc q)=if p.1=q.1 then decide (p.2 < q.2) else dataLt (enc p.1) (enc q.1):=by
 unfold la;rw [dataLt_pair (O.al p.1 q.1) (by simp [alike]),O.eq];by_cases h:p.1=q.1
 ·rw [if_pos (by simp [h]),if_pos h,dataLt_int];by_cases h2:p.2=q.2
  ·simp [PyData.eqv,h2]
  ·simp [PyData.eqv,h2]
 ·rw [if_neg (by simp [h]),if_neg h]
def nV (enc:γ->PyData) (bs:List γ):List γ:=bs.mergeSort (dataLe false enc)
theorem zU (bs:List γ):(nV enc bs).Perm bs:=List.mergeSort_perm _ _
theorem zff (bs:List γ):(nV enc bs).Pairwise (fun a b=>dataLt (enc b) (enc a)=false):=by
 have h:=List.pairwise_mergeSort (le:=dataLe false enc) (fun a b c h1 h2=>?_) (fun a b=>?_) bs
 ·refine h.imp fun {a b} jk=>?_;rw [dataLe_eq] at jk;simpa using jk
 ·rw [dataLe_eq] at h1 h2 ⊢;simp only [cond_false,Bool.not_eq_true'] at h1 h2 ⊢;by_cases jk:a=b
  ·subst jk; exact h2
  ·by_cases B3:b=c
   ·subst B3; exact h1
   ·exact N5 (N8 (HW (fun z=>jk z.symm) h1) (HW (fun z=>B3 z.symm) h2))
 ·rw [dataLe_eq];simp only [cond_false];cases e:dataLt (enc b) (enc a) with
  | false=>rfl
  | true=>rw [N5 e]; rfl
def sumE (ps:List (γ × Int)) (x:γ):Int:=match ps with
 | []=>0
 | p::r=>(if p.1=x then p.2 else 0)+sumE r x
theorem vY (x:γ):∀ (as bs:List (γ × Int)),sumE (as++bs) x=sumE as x+sumE bs x
 | [],bs=>by simp [sumE]
 | p::r,bs=>by show _+sumE (r++bs) x=_; rw [vY x r bs,sumE]; omega
theorem zc7 {as bs:List (γ × Int)} (h:as.Perm bs) (x:γ):sumE as x=sumE bs x:=by
 induction h with
 | nil=>rfl
 | cons y _ ih=>simp only [sumE]; omega
 | swap y z l=>simp only [sumE]; omega
 | trans _ _ h1 h2=>omega
theorem zbh (acc:List (γ × Int)) (p:γ × Int) (x:γ):sumE (eY acc p) x=sumE acc x+(if p.1=x then p.2 else 0):=by
 rcases List.eq_nil_or_concat acc with h | ⟨a,z,h⟩
 ·subst h; rw [xS]; simp [sumE]
 ·subst h;rw [List.concat_eq_append,pI];by_cases hz:z.1=p.1
  ·rw [if_pos hz,vY,vY];simp only [sumE,hz];by_cases hx:p.1=x
   ·simp only [if_pos hx]; omega
   ·simp only [if_neg hx]; omega
  ·rw [if_neg hz,vY]; simp only [sumE]; omega
theorem zex (bs:List (γ × Int)) (x:γ):sumE (jn bs) x=sumE bs x:=by
 have key:∀ (bs acc:List (γ × Int)),sumE (bs.foldl eY acc) x=sumE acc x+sumE bs x:=by
  intro bs
  induction bs with
  | nil=>intro acc; simp [sumE]
  | cons p r ih =>
   intro acc;show sumE (r.foldl eY (eY acc p)) x=_;rw [ih,zbh,sumE]; omega
 have:=key bs [];simpa [jn,sumE] using this
theorem zfg {bs:List (γ × Int)} (h:bs.Pairwise (fun a b=>dataLt (enc b.1) (enc a.1)=false)):(jn bs).Pairwise (fun p q=>dataLt (enc p.1) (enc q.1)=true):=by
 have key:∀ (bs acc:List (γ × Int)),acc.Pairwise (fun p q=>dataLt (enc p.1) (enc q.1)=true)->(∀ a ∈ acc,∀ b ∈ bs,dataLt (enc b.1) (enc a.1)=false)->bs.Pairwise (fun a b=>dataLt (enc b.1) (enc a.1)=false)->(bs.foldl eY acc).Pairwise (fun p q=>dataLt (enc p.1) (enc q.1)=true):=by
  intro bs
  induction bs with
  | nil=>intro acc h _ _; exact h
  | cons p r ih =>
   intro acc h1 h2 h3;obtain ⟨TB,Tz⟩:=List.pairwise_cons.mp h3;refine ih (eY acc p) ?_ ?_ Tz
   ·rcases List.eq_nil_or_concat acc with h | ⟨a,z,h⟩
    ·subst h; rw [xS]; exact List.pairwise_singleton _ _
    ·subst h;rw [List.concat_eq_append] at h1 h2 ⊢;rw [pI];obtain ⟨a1,_,a3⟩:=List.pairwise_append.mp h1;by_cases hz:z.1=p.1
     ·rw [if_pos hz,List.pairwise_append];refine ⟨a1,List.pairwise_singleton _ _,fun x hx y hy=>?_⟩;have AS:y=(p.1,z.2+p.2):=by simpa using hy
      subst AS;show dataLt (enc x.1) (enc p.1)=true;rw [<- hz]; exact a3 x hx z (by simp)
     ·rw [if_neg hz,List.pairwise_append];refine ⟨h1,List.pairwise_singleton _ _,fun x hx y hy=>?_⟩;have AS:y=p:=by simpa using hy
      subst AS;have Jn:dataLt (enc z.1) (enc y.1)=true:=HW (fun q=>hz q.symm) (h2 z (by simp) y (bM ..));rcases Qw hx with hx | hx
      ·exact N8 (a3 x hx z (by simp)) Jn
      ·have F7:x=z:=by simpa using hx
       subst F7; exact Jn
   ·intro a ha b hb;have qV:=TB b hb;rcases List.eq_nil_or_concat acc with h | ⟨c,z,h⟩
    ·subst h;rw [xS] at ha;have:a=p:=by simpa using ha
     subst this; exact qV
    ·subst h;rw [List.concat_eq_append] at ha h2;rw [pI] at ha;by_cases hz:z.1=p.1
     ·rw [if_pos hz] at ha;rcases Qw ha with ha | ha
      ·exact h2 a (jA _ ha) b (bR _ hb)
      ·have:a=(p.1,z.2+p.2):=by simpa using ha
       subst this; exact qV
     ·rw [if_neg hz] at ha;rcases Qw ha with ha | ha
      ·exact h2 a ha b (bR _ hb)
      ·have:a=p:=by simpa using ha
       subst this; exact qV
 exact key bs [] List.Pairwise.nil (by simp) h
theorem zd4 (bs:List (γ × Int)):(nV (la enc) bs).Pairwise (fun a b=>dataLt (enc b.1) (enc a.1)=false):=by
 refine (zff (enc:=la enc) bs).imp fun {a b} jk=>?_;rw [zcw] at jk;by_cases h:b.1=a.1
 ·rw [h]; exact CV _
 ·rw [if_neg h] at jk; exact jk
def pS (enc:γ->PyData) (bs:List (γ × Int)):List (γ × Int):=jn (nV (la enc) bs)
theorem WA (bs:List (γ × Int)):(pS enc bs).Pairwise (fun p q=>dataLt (enc p.1) (enc q.1)=true):=zfg (zd4 bs)
theorem FA (bs:List (γ × Int)) (x:γ):sumE (pS enc bs) x=sumE bs x:=by
 unfold pS;rw [zex,zc7 (zU bs)]
theorem FN (bs:List (γ × Int)):∀ p ∈ pS enc bs,∃ q ∈ bs,q.1=p.1:=fun p hp=>by
 obtain ⟨q,hq,e⟩:=By _ p hp;exact ⟨q,(zU bs).mem_iff.mp hq,e⟩
def bZ:List (γ × Int)->Int
 | []=>0
 | p::r=>p.2+bZ r
theorem Ir:∀ as bs:List (γ × Int),bZ (as++bs)=bZ as+bZ bs
 | [],bs=>by simp [bZ]
 | p::r,bs=>by show _+bZ (r++bs)=_; rw [Ir r bs,bZ]; omega
theorem zcl {as bs:List (γ × Int)} (h:as.Perm bs):bZ as=bZ bs:=by
 induction h with
 | nil=>rfl
 | cons y _ ih=>simp only [bZ]; omega
 | swap y z l=>simp only [bZ]; omega
 | trans _ _ h1 h2=>omega
theorem zhz (bs:List (γ × Int)):bZ (jn bs)=bZ bs:=by
 have key:∀ (bs acc:List (γ × Int)),bZ (bs.foldl eY acc)=bZ acc+bZ bs:=by
  intro bs
  induction bs with
  | nil=>intro acc; simp [bZ]
  | cons p r ih =>
   intro acc;show bZ (r.foldl eY (eY acc p))=_;rw [ih];have e:bZ (eY acc p)=bZ acc+p.2:=by
    rcases List.eq_nil_or_concat acc with h | ⟨a,z,h⟩
    ·subst h; rw [xS]; simp [bZ]
    ·subst h;rw [List.concat_eq_append,pI]
     split
     ·rw [Ir,Ir]; simp only [bZ]; omega
     ·rw [Ir]; simp only [bZ]; omega
   rw [e,bZ]; omega
 have:=key bs [];simpa [jn,bZ] using this
theorem zik {bs:List (γ × Int)} (h:∀ p ∈ bs,1<=p.2):∀ p ∈ jn bs,1<=p.2:=by
 have key:∀ (bs acc:List (γ × Int)),(∀ p ∈ acc,1<=p.2)->(∀ p ∈ bs,1<=p.2)->∀ p ∈ bs.foldl eY acc,1<=p.2:=by
  intro bs
  induction bs with
  | nil=>intro acc h _; exact h
  | cons p r ih =>
   intro acc h1 h2;refine ih (eY acc p) (fun q hq=>?_) fun q hq=>h2 q (bR _ hq);have hp:=h2 p (bM ..);rcases List.eq_nil_or_concat acc with h | ⟨a,z,h⟩
   ·subst h;rw [xS] at hq;have:q=p:=by simpa using hq
    subst this; exact hp
   ·subst h;rw [List.concat_eq_append] at h1 hq;rw [pI] at hq;have hz:=h1 z (by simp);by_cases e:z.1=p.1
    ·rw [if_pos e] at hq;rcases Qw hq with hq | hq
     ·exact h1 q (jA _ hq)
     ·have:q=(p.1,z.2+p.2):=by simpa using hq
      subst this; show 1<=z.2+p.2; omega
    ·rw [if_neg e] at hq;rcases Qw hq with hq | hq
     ·exact h1 q hq
     ·have:q=p:=by simpa using hq
      subst this; exact hp
 exact key bs [] (by simp) h
theorem zgc {bs:List (γ × Int)} (h:∀ p ∈ bs,1<=p.2):∀ p ∈ bs,p.2<=bZ bs:=by
 induction bs with
 | nil=>intro p hp; cases hp
 | cons a r ih =>
  intro p hp;have hr:0<=bZ r:=by
   clear ih hp;have:∀ p ∈ r,1<=p.2:=fun p hp=>h p (bR _ hp);clear h
   induction r with
   | nil=>exact Kw _
   | cons b r ih2 =>
    have h1:=this b (bM ..);have h2:=ih2 fun p hp=>this p (bR _ hp);show 0<=b.2+bZ r; omega
  have ha:=h a (bM ..);rcases Qv hp with hp | hp
  ·subst hp; show p.2<=p.2+bZ r; omega
  ·have:=ih (fun p hp=>h p (bR _ hp)) p hp;show p.2<=a.2+bZ r; omega
theorem VZ {bs:List (γ × Int)} (h:∀ p ∈ bs,1<=p.2):∀ p ∈ pS enc bs,1<=p.2/\p.2<=bZ bs:=fun p hp=>by
 have h0:∀ p ∈ nV (la enc) bs,1<=p.2:=fun p hp=>h p ((zU bs).mem_iff.mp hp);have h1:=zik h0;refine ⟨h1 p hp,?_⟩;have h2:=zgc h1 p hp;rw [zhz,zcl (zU bs)] at h2;exact h2
end
inductive Gr where
 | nil
 | cons (k:Str) (g:Gr) (m:Int) (r:Gr)
 deriving DecidableEq
abbrev Tr:=Str × Gr
def dE (k:Str):Prop:=1<=k.cps.toList.length/\k.cps.toList.length<=8/\∀ c ∈ k.cps.toList,97<=c/\c<=122
namespace Gr
def encs:Gr->List PyData
 | .nil=>[]
 | .cons k g m r=>.tuple [.tuple [.str k,.tuple g.encs],.int m]::r.encs
def enc (g:Gr):PyData:=.tuple g.encs
def aG (t:Tr):PyData:=.tuple [.str t.1,t.2.enc]
abbrev aB:Tr × Int->PyData:=la aG
def ps:Gr->List (Tr × Int)
 | .nil=>[]
 | .cons k g m r=>((k,g),m)::r.ps
def ofPs:List (Tr × Int)->Gr
 | []=>.nil
 | p::r=>.cons p.1.1 p.1.2 p.2 (ofPs r)
theorem aC:∀ g:Gr,ofPs g.ps=g
 | .nil=>rfl
 | .cons k g m r=>by show Gr.cons k g m (ofPs r.ps)=_; rw [aC r]
theorem aQ:∀ bs:List (Tr × Int),(ofPs bs).ps=bs
 | []=>rfl
 | p::r=>by show ((p.1.1,p.1.2),p.2)::(ofPs r).ps=_; rw [aQ r]
theorem dS:∀ g:Gr,g.encs=g.ps.map aB
 | .nil=>rfl
 | .cons k g m r=>by show _::r.encs=_::r.ps.map aB; rw [dS r]; rfl
def parts:Gr->Nat
 | .nil=>0
 | .cons _ g _ r=>1+g.parts+r.parts
def deep:Gr->Nat
 | .nil=>0
 | .cons _ g _ r=>max (1+g.deep) r.deep
def tot:List (Tr × Int)->Nat
 | []=>0
 | p::r=>1+p.1.2.parts+tot r
theorem aU:∀ bs:List (Tr × Int),(ofPs bs).parts=tot bs
 | []=>rfl
 | p::r=>by show 1+p.1.2.parts+(ofPs r).parts=1+p.1.2.parts+tot r; rw [aU r]
theorem ku (g:Gr):tot g.ps=g.parts:=by rw [<- aU,aC]
theorem aX:∀ bs cs:List (Tr × Int),tot (bs++cs)=tot bs+tot cs
 | [],cs=>by simp [tot]
 | p::r,cs=>by show 1+p.1.2.parts+tot (r++cs)=_; rw [aX r cs,tot]; omega
theorem jG {bs cs:List (Tr × Int)} (h:bs.Perm cs):tot bs=tot cs:=by
 induction h with
 | nil=>rfl
 | cons x _ ih=>simp only [tot]; omega
 | swap x y l=>simp only [tot]; omega
 | trans _ _ h1 h2=>omega
theorem qj:∀ bs:List (Tr × Int),bs.length<=tot bs
 | []=>Yc _
 | p::r=>by have:=qj r; show r.length+1<=1+p.1.2.parts+tot r; omega
theorem pN (bs:List (Tr × Int)):tot (jn bs)<=tot bs:=by
 have key:∀ (bs acc:List (Tr × Int)),tot (bs.foldl eY acc)<=tot acc+tot bs:=by
  intro bs
  induction bs with
  | nil=>intro acc; simp [tot]
  | cons x r ih =>
   intro acc;have h1:=ih (eY acc x);have h2:tot (eY acc x)<=tot acc+(1+x.1.2.parts):=by
    rcases List.eq_nil_or_concat acc with h | ⟨a,z,h⟩
    ·subst h; simp [xS,tot]
    ·subst h;rw [List.concat_eq_append,pI];by_cases hz:z.1=x.1
     ·rw [if_pos hz,aX,aX]; simp only [tot]; rw [hz]; omega
     ·rw [if_neg hz,aX,aX]; simp only [tot]; omega
   show tot (r.foldl eY (eY acc x))<=tot acc+(1+x.1.2.parts+tot r);omega
 have:=key bs [];simpa [jn,tot] using this
theorem av:∀ (g:Gr) (p:Tr × Int),p ∈ g.ps->p.1.2.deep < g.deep
 | .nil,p,h=>by cases h
 | .cons k g m r,p,h=>by
  rcases Qv h with h | h
  ·subst h; show g.deep < max (1+g.deep) r.deep; omega
  ·have:=av r p h; show _ < max (1+g.deep) r.deep; omega
theorem bu:∀ (g:Gr) (p:Tr × Int),p ∈ g.ps->p.1.2.parts < g.parts
 | .nil,p,h=>by cases h
 | .cons k g m r,p,h=>by
  rcases Qv h with h | h
  ·subst h; show g.parts < 1+g.parts+r.parts; omega
  ·have:=bu r p h; show _ < 1+g.parts+r.parts; omega
theorem lR {n:Nat}:∀ {g:Gr},(∀ p ∈ g.ps,p.1.2.deep < n)->g.deep<=n
 | .nil,_=>Nat.zero_le _
 | .cons k g m r,h=>by
  have h1:=h ((k,g),m) (bM ..);have h2:=lR (g:=r) fun p hp=>h p (bR _ hp);show max (1+g.deep) r.deep<=n;have:g.deep < n:=h1;omega
theorem aF (g:Gr):g.ps.length<=g.parts:=by have:=qj g.ps; rw [ku] at this; exact this
theorem jq:∀ g h:Gr,alikeAll g.encs h.encs=true
 | .nil,_=>by simp [encs,alikeAll]
 | .cons _ _ _ _,.nil=>by simp [encs,alikeAll]
 | .cons k g m r,.cons k' g' m' r'=>by
  have h1:=jq g g';have h2:=jq r r';simp [encs,alikeAll,alike,h1,h2]
theorem dH (g h:Gr):alike g.enc h.enc=true:=by
 show alike (.tuple g.encs) (.tuple h.encs)=true;rw [alike]; exact jq g h
theorem sb (a b:Str):(a == b)=decide (a=b):=by by_cases h:a=b <;> simp [h]
theorem uK:∀ g h:Gr,PyData.eqvAll g.encs h.encs=decide (g=h)
 | .nil,.nil=>by simp [encs,PyData.eqvAll]
 | .nil,.cons _ _ _ _=>by simp [encs,PyData.eqvAll]
 | .cons _ _ _ _,.nil=>by simp [encs,PyData.eqvAll]
 | .cons k g m r,.cons k' g' m' r'=>by
  have h1:=uK g g';have h2:=uK r r';simp [encs,PyData.eqvAll,PyData.eqv,h1,h2,Bool.and_assoc,ib,sb]
theorem bc (g h:Gr):PyData.eqv g.enc h.enc=decide (g=h):=by
 rw [enc,enc,PyData.eqv]; exact uK g h
instance:Orderly aG where
 al a b:=by simp [aG,alike,alikeAll,dH]
 eq a b:=by
  simp only [aG,PyData.eqv,PyData.eqvAll,bc,Bool.and_true,sb];by_cases h:a=b
  ·subst h; simp
  ·rw [Qz h,Bool.and_eq_false_iff];by_cases h1:a.1=b.1
   ·exact .inr (Qz fun h2=>h (Prod.ext h1 h2))
   ·exact .inl (Qz h1)
theorem cn:∀ g:Gr,jw g.encs=true
 | .nil=>by simp [encs,jw]
 | .cons k g m r=>by simp [encs,jw,noList,cn g,cn r]
theorem aj (g:Gr):noList g.enc=true:=by simp [enc,noList,cn g]
theorem ax (t:Tr):noList (aG t)=true:=by simp [aG,noList,jw,aj]
theorem aa (p:Tr × Int):noList (aB p)=true:=by simp [aB,la,noList,jw,ax]
theorem cq:∀ g:Gr,PyData.depthAll g.encs<=3*g.deep
 | .nil=>by simp [encs,PyData.depthAll,deep]
 | .cons k g m r=>by
  have h1:=cq g;have h2:=cq r;simp only [encs,PyData.depthAll,PyData.depth,deep];omega
theorem cz (g:Gr):g.enc.depth<=3*g.deep+1:=by
 have:=cq g;simp only [enc,PyData.depth];omega
theorem jc (t:Tr):(aG t).depth<=3*t.2.deep+2:=by
 have:=cz t.2;simp only [aG,PyData.depth,PyData.depthAll]; omega
theorem dv (p:Tr × Int):(aB p).depth<=3*p.1.2.deep+3:=by
 have:=jc p.1;simp only [aB,la,PyData.depth,PyData.depthAll]; omega
def Ok (C:Int):Gr->Prop
 | .nil=>True
 | .cons k g m r=>dE k/\g.Ok C/\1<=m/\m < C/\r.Ok C/\∀ p ∈ r.ps,dataLt (aG (k,g)) (aG p.1)=true
theorem Ok.mono {B C:Int} (h:B<=C):∀ {g:Gr},g.Ok B->g.Ok C
 | .nil,_=>trivial
 | .cons k g m r,⟨h0,h1,h2,h3,h4,h5⟩=>⟨h0,Ok.mono h h1,h2,by omega,Ok.mono h h4,h5⟩
theorem fB {C:Int}:∀ {bs:List (Tr × Int)},(ofPs bs).Ok C ↔ (∀ p ∈ bs,dE p.1.1/\p.1.2.Ok C/\1<=p.2/\p.2 < C)/\bs.Pairwise (fun p q=>dataLt (aG p.1) (aG q.1)=true)
 | []=>by simp [ofPs,Ok]
 | x::r=>by
  have ih:=fB (C:=C) (bs:=r);show (dE x.1.1/\x.1.2.Ok C/\1<=x.2/\x.2 < C/\(ofPs r).Ok C/\∀ p ∈ (ofPs r).ps,dataLt (aG x.1) (aG p.1)=true) ↔ _;rw [aQ,List.pairwise_cons,ih];constructor
  ·rintro ⟨h0,h1,h2,h3,⟨h4,h5⟩,h6⟩
   refine ⟨fun p hp=>?_,h6,h5⟩;rcases Qv hp with hp | hp
   ·subst hp; exact ⟨h0,h1,h2,h3⟩
   ·exact h4 p hp
  ·rintro ⟨h1,h2,h3⟩
   have h4:=h1 x (bM ..);exact ⟨h4.1,h4.2.1,h4.2.2.1,h4.2.2.2,⟨fun p hp=>h1 p (bR _ hp),h3⟩,h2⟩
theorem bj {g:Gr}:g.Ok C ↔ (∀ p ∈ g.ps,dE p.1.1/\p.1.2.Ok C/\1<=p.2/\p.2 < C)/\g.ps.Pairwise (fun p q=>dataLt (aG p.1) (aG q.1)=true):=by
 have:=fB (C:=C) (bs:=g.ps);rw [aC] at this;exact this
theorem dq {k:Str} (h:dE k):PySem.PyData.strOk k=true:=by
 show k.cps.all (· < 0x110000)=true;rw [Array.all_eq_true'];intro c hc;have:=h.2.2 c (by simpa using hc);simp; omega
theorem kQ {C:Int}:∀ {g:Gr},g.Ok C->PyData.canLayAll0 g.encs=true
 | .nil,_=>by simp [encs,PyData.canLayAll0]
 | .cons k g m r,⟨h0,h1,_,_,h4,_⟩=>by
  have e1:=kQ h1;have e2:=kQ h4;simp [encs,PyData.canLayAll0,PyData.canLay0,e1,e2,dq h0]
theorem aH {g:Gr} (h:g.Ok C) (hd:g.deep<=20):SeqAt.shaped g.enc=true:=by
 have:=g.cz;unfold SeqAt.shaped;rw [show g.enc.canLay0=true by rw [enc,PyData.canLay0]; exact kQ h];simp; omega
theorem lg {t:Tr} (h0:dE t.1) (h:t.2.Ok C) (hd:t.2.deep<=20):SeqAt.shaped (aG t)=true:=by
 have:=jc t;unfold SeqAt.shaped;rw [show (aG t).canLay0=true by simp [aG,PyData.canLay0,PyData.canLayAll0,dq h0,enc,kQ h]];simp; omega
theorem jR (bs:List (Tr × Int)):AllAlike (bs.map aB):=AllAlike.of fun a b=>Orderly.al (enc:=aB) a b
theorem eG (bs:List (Tr × Int)):Sortable (bs.map aB):=Sortable.tuples fun b=>⟨_,_,rfl⟩
def tidy (bs:List (Tr × Int)):Gr:=ofPs (pS aG bs)
theorem jb (bs:List (Tr × Int)):(tidy bs).parts<=tot bs:=by
 unfold tidy;rw [aU];have h1:=pN (nV (la aG) bs);rw [jG (zU bs)] at h1;exact h1
theorem kz {bs:List (Tr × Int)} (h:∀ p ∈ bs,p.1.2.deep < n):(tidy bs).deep<=n:=by
 refine lR fun p hp=>?_;unfold tidy at hp;rw [aQ] at hp;obtain ⟨q,hq,e⟩:=FN bs p hp;rw [<- e]; exact h q hq
theorem pQ {bs:List (Tr × Int)} (h:∀ p ∈ bs,dE p.1.1/\p.1.2.Ok C/\1<=p.2) (hD:bZ bs < D) (hCD:C<=D):(tidy bs).Ok D:=by
 unfold tidy;rw [fB];refine ⟨fun p hp=>?_,WA bs⟩;obtain ⟨q,hq,e⟩:=FN bs p hp;have vq:=h q hq;obtain ⟨h1,h2⟩:=VZ (enc:=aG) (fun p hp=>(h p hp).2.2) p hp;rw [<- e];exact ⟨vq.1,vq.2.1.mono hCD,h1,by omega⟩
end Gr
def GA (K:Qn) (H:Hp) (v:V) (g:Gr):Prop:=Dp K H v g.enc
section
variable {K:Qn} {ps:List Addr} {H H':Hp} {v:V} {g:Gr}
theorem GA.sb (h:GA K H v g) (e:SB ps H H'):GA K H' v g:=cI e _ _ g.aj h
theorem nH (h:GA K H v g):∃ a xs,v=.ref a/\SqT K H a xs/\Bears K H Gr.aB xs g.ps:=by
 have h':Dp K H v (.tuple g.encs):=h;cases h' with
 | tup hs ha =>
  rw [Gr.dS] at ha;exact ⟨_,_,Ja,hs,Bears.of ha⟩
theorem CU {bs:List (Tr × Int)} (h:SqT K H a xs) (hb:Bears K H Gr.aB xs bs):GA K H (.ref a) (Gr.ofPs bs):=by
 refine Dp.tup h ?_;rw [Gr.dS,Gr.aQ];exact hb.dp
theorem Ah (h:SqT K H p []):GA K H (.ref p) .nil:=Dp.tup h .nil
theorem Wi {t:Tr} (h:Dp K H v (Gr.aG t)):∃ a u,v=.ref a/\SqT K H a [.str t.1,u]/\GA K H u t.2:=by
 cases h with
 | tup hs ha =>
  cases ha with
  | cons h1 h2 =>
   cases h2 with
   | cons h3 h4 =>
    cases h4;cases h1;exact ⟨_,_,Ja,hs,h3⟩
theorem nP {p:Tr × Int} (h:Dp K H v (Gr.aB p)):∃ a b u,v=.ref a/\SqT K H a [.ref b,.int p.2]/\SqT K H b [.str p.1.1,u]/\GA K H u p.1.2/\Dp K H (.ref b) (Gr.aG p.1):=by
 cases h with
 | tup hs ha =>
  cases ha with
  | cons h1 h2 =>
   cases h2 with
   | cons h3 h4 =>
    cases h4;cases h3;obtain ⟨b,u,rfl,hb,hg⟩:=Wi h1;exact ⟨_,b,u,Ja,hs,hb,hg,h1⟩
end
def Fz (K:Qn):Sp:=fun vs H Q _=>∃ (a:Addr) (xs:List V) (bs:List (Tr × Int)),vs=[.ref a]/\(SqL K H a xs\/SqT K H a xs)/\Bears K H Gr.aB xs bs/\bs.length<=1000/\(∃ C,∀ p ∈ bs,dE p.1.1/\p.1.2.Ok C/\p.1.2.deep<=18) /\
 ∀ (v:V) (H':Hp),SB [] H H'->GA K H' v (Gr.tidy bs)->Q v H'
def ju (z:Str) (n:Nat):Prop:=z.cps.toList.length=n/\∀ c ∈ z.cps.toList,97<=c/\c<=122
theorem ju.name (h:ju z n) (h1:1<=n) (h8:n<=8):dE z:=⟨by have:=h.1; omega,by have:=h.1; omega,h.2⟩
theorem ju.len (h:ju z n):z.length=n:=by have:=h.1; simpa [Str.length] using this
theorem ju.one {c:Nat} (h:97<=c/\c<=122):ju ⟨#[c]⟩ 1:=⟨rfl,fun x hx=>by simp at hx; subst hx; exact h⟩
theorem ju.append {a b:Str} {m:Nat} (ha:ju a n) (hb:ju b m):ju (a++b) (n+m):=by
 have e:(a++b).cps.toList=a.cps.toList++b.cps.toList:=by show (a.cps++b.cps).toList=_; simp
 unfold ju;rw [e,Yf,ha.1,hb.1];refine ⟨rfl,fun c hc=>?_⟩;rcases Qw hc with hc | hc
 ·exact ha.2 c hc
 ·exact hb.2 c hc
theorem ju.take {z:Str} {n:Nat} (h:ju z n) (k:Nat):ju (cutS z none (some (k:Int))) (min k n):=by
 have hl:=h.len;have e:(cutS z none (some (k:Int))).cps.toList=z.cps.toList.take (min k n):=by
  unfold cutS;rw [HT.sIx_none,HT.sIx_nat,hl];simp
 unfold ju;rw [e,Kx,h.1];exact ⟨by omega,fun c hc=>h.2 c (List.mem_of_mem_take hc)⟩
theorem WZ:∀ (cs:List Nat) (acc:Array Nat),((cs.map fun c=>(⟨#[c]⟩:Str)).foldl (fun acc p=>acc++(Str.ofString "").cps++p.cps) acc).toList=acc.toList++cs
 | [],acc=>by simp
 | c::cs,acc=>by
  have e0:(Str.ofString "").cps=#[]:=by decide +kernel
  rw [Ky,List.foldl_cons,WZ cs];simp [e0]
theorem zch (cs:List Nat) (h:∀ c ∈ cs,97<=c/\c<=122):ju (Txt.join (Str.ofString "") (cs.map fun c=>⟨#[c]⟩)) cs.length:=by
 have e:(Txt.join (Str.ofString "") (cs.map fun c=>(⟨#[c]⟩:Str))).cps.toList=cs:=by
  show (Builtin.Str.glued (Str.ofString "") (cs.map fun c=>(⟨#[c]⟩:Str))).cps.toList=cs;unfold Builtin.Str.glued;cases cs with
  | nil=>rfl
  | cons c r =>
   show ((r.map fun c=>(⟨#[c]⟩:Str)).foldl (fun acc p=>acc++(Str.ofString "").cps++p.cps) #[c]).toList=c::r;rw [WZ]
   rfl
 unfold ju;rw [e];exact ⟨rfl,h⟩
abbrev tw:Str:=Str.ofString "abcdefghijklmnopqrstuvwxyz"
theorem zhr:∀ r:Nat,r < 26->∃ c,tw.cps.toList[r]?=some c/\97<=c/\c<=122:=by
 have:∀ r:Fin 26,∃ c:Fin 200,tw.cps.toList[r.val]?=some c.val/\97<=c.val/\c.val<=122:=by decide +kernel
 intro r hr;obtain ⟨c,h⟩:=this ⟨r,hr⟩;exact ⟨c.val,h⟩
theorem V0:tw.length<=sizeLine:=by decide +kernel
theorem Oe {xs:List Nat} {j:Nat} {c:Nat} (h:xs[j]?=some c):atI xs (j:Int)=some c:=by
 have hj:j < xs.length:=(Kq h).1;unfold atI ixN;rw [if_pos (by omega),if_pos (by omega)];simpa using h
def zdb (K:Qn) {β:Type} (enc:β->PyData) (vs:List V) (H:Hp) (Q:VK):Prop:=∃ (a:Addr) (xs:List V) (bs:List β),vs=[V.ref a]/\(SqL K H a xs\/SqT K H a xs)/\Bears K H enc xs bs/\AllAlike (bs.map enc)/\Sortable (bs.map enc)/\bs.length<=10000000/\(∀ b ∈ bs,(enc b).depth<=100) /\
 ∀ (p:Addr) (ys:List V),H p=none->Bears K H enc ys (bs.mergeSort (dataLe false enc))->Q (.ref p) (upd H p (.lst ys))
theorem zb5 {X:Cx} {β:Type} (enc:β->PyData) (hu:X.A.units+110 < cLine):CallR X (.builtin "sorted") (zdb X.K enc):=by
 intro pins s σ H vs us Q I r h;obtain ⟨a,xs,bs,h1,h2,h3⟩:=h;rcases h2 with h2 | h2
 ·exact zb3 enc hu pins s σ H vs us Q I r ⟨a,xs,bs,h1,h2,h3⟩
 ·exact zb2 enc hu pins s σ H vs us Q I r ⟨a,xs,bs,h1,h2,h3⟩
theorem Gr.rN {bs:List (Tr × Int)} (h:∃ C,∀ b ∈ bs,dE b.1.1/\b.1.2.Ok C/\b.1.2.deep<=18):SeqAt.shaped (.list (bs.map Gr.aB))=true:=by
 obtain ⟨C,h⟩:=h;have h1:PyData.canLayAll0 (bs.map Gr.aB)=true:=by
  induction bs with
  | nil=>simp [PyData.canLayAll0]
  | cons b r ih =>
   have e:=ih fun c hc=>h c (bR _ hc);obtain ⟨n,o,_⟩:=h b (bM ..);rw [Ky,PyData.canLayAll0,e];simp [Gr.aB,la,Gr.aG,PyData.canLay0,PyData.canLayAll0,Gr.enc,Gr.kQ o,Gr.dq n]
 have h2:PyData.depthAll (bs.map Gr.aB)<=57:=by
  clear h1
  induction bs with
  | nil=>simp [PyData.depthAll]
  | cons b r ih =>
   have e1:=ih (fun c hc=>h c (bR _ hc));have e2:=(h b (bM ..)).2.2;have e3:=Gr.dv b;rw [Ky,PyData.depthAll];omega
 have h3:(PyData.list (bs.map Gr.aB)).depth=PyData.depthAll (bs.map Gr.aB)+1:=by simp [PyData.depth]
 unfold SeqAt.shaped;rw [PyData.canLay0,h1,Bool.true_and];exact Ya (by omega)
namespace Gr
def within:Gr->List (Tr × Int)
 | .nil=>[]
 | .cons k g m r=>((k,g),m)::(g.within++r.within)
theorem d7:∀ g:Gr,g.within=g.ps.flatMap fun p=>p::p.1.2.within
 | .nil=>rfl
 | .cons k g m r=>by show ((k,g),m)::(g.within++r.within)=_; rw [d7 r]; rfl
theorem bK:∀ g:Gr,g.within.length=g.parts
 | .nil=>rfl
 | .cons k g m r=>by show (g.within++r.within).length+1=1+g.parts+r.parts; rw [Yf,bK g,bK r]; omega
theorem vM:∀ h:Gr,0 < h.deep->∃ p ∈ h.ps,p.1.2.deep+1=h.deep
 | .nil,h=>by simp [deep] at h
 | .cons k g m r,_=>by
  by_cases hr:r.deep<=1+g.deep
  ·exact ⟨((k,g),m),bM ..,by show g.deep+1=max (1+g.deep) r.deep; omega⟩
  ·obtain ⟨p,hp,e2⟩:=vM r (by omega);exact ⟨p,bR _ hp,by show p.1.2.deep+1=max (1+g.deep) r.deep; omega⟩
theorem zf (g:Gr) (m:Int) (hm:m ∈ (g.ps.map fun p=>(p.1.2.deep:Int))) (hy:∀ a,a ∈ (g.ps.map fun p=>(p.1.2.deep:Int))->a<=m):(1:Int)+m=(g.deep:Int):=by
 obtain ⟨p,hp,rfl⟩:=Qx hm;have h1:=g.av p hp;obtain ⟨q,hq,e⟩:=g.vM (by omega);have:=hy _ (Ku ⟨q,hq,rfl⟩);omega
theorem fx {x:Int} (h0:0<=x) (h:x < 2 ^ n):x.natAbs < 2 ^ n:=by
 have h2:((x.natAbs:Nat):Int)=x:=Int.natAbs_of_nonneg h0;have h3:((2 ^ n:Nat):Int)=(2:Int) ^ n:=by rw [Int.natCast_pow]; rfl
 exact Int.ofNat_lt.mp (by rw [h2,h3]; exact h)
end Gr
def BC (K:Qn) (n:Nat):Sp:=fun vs H Q _=>∃ (v:V) (g:Gr),vs=[v]/\GA K H v g/\g.deep < n/\g.parts<=200000/\∀ (D:Addr) (us:List V) (H':Hp),SB [] H H'->H D=none->H' D=some (.lst us)->Bears K H' Gr.aB us g.within->Q (.ref D) H'
def Xh (K:Qn) (n:Nat):Sp:=fun vs H Q _=>∃ (v:V) (g:Gr),vs=[v]/\GA K H v g/\g.deep < n/\g.parts<=200000/\∀ H',SB [] H H'->Q (.int (g.parts:Nat)) H'
def FG (K:Qn) (n:Nat):Sp:=fun vs H Q _=>∃ (v:V) (g:Gr),vs=[v]/\GA K H v g/\g.deep < n/\g.parts<=200000/\∀ H',SB [] H H'->Q (.int (g.deep:Nat)) H'
section
variable {P:Program} {w:World} {K:Qn} {mg:Str->Option Value} {base:Heap} {f:Addr} {fd:FuncData}
theorem zd9 {ps:List Str}:FnOk P w K mg base CX0 k f fd ps (BC K 0):=tG fun vs H Q E ⟨v,l,_,_,h,_⟩=>by omega
theorem zcn {ps:List Str}:FnOk P w K mg base CX0 k f fd ps (FG K 0):=tG fun vs H Q E ⟨v,l,_,_,h,_⟩=>by omega
end
namespace Gr
def ki (g k:Gr):Gr:=tidy (g.ps++k.ps)
theorem tP (g k:Gr):(ki g k).ps=pS aG (g.ps++k.ps):=aQ _
theorem iW (g k:Gr):(ki g k).parts<=g.parts+k.parts:=by
 have:=jb (g.ps++k.ps);rw [aX,ku,ku] at this;exact this
theorem lV {g k:Gr} (hg:g.deep<=n) (hk:k.deep<=n):(ki g k).deep<=n:=kz fun p hp=>by
 rcases Qw hp with h | h
 ·have:=g.av p h; omega
 ·have:=k.av p h; omega
abbrev S (g:Gr) (t:Tr):Int:=sumE g.ps t
theorem pq (g k:Gr) (t:Tr):S (ki g k) t=S g t+S k t:=by
 show sumE (ki g k).ps t=_;rw [tP,FA,vY]
theorem jt {bs:List (Tr × Int)} {t:Tr} (h:∀ p ∈ bs,p.1 ≠ t):sumE bs t=0:=by
 induction bs with
 | nil=>rfl
 | cons p r ih =>
  show (if p.1=t then p.2 else 0)+sumE r t=0;rw [if_neg (h p (bM ..)),ih fun q hq=>h q (bR _ hq)]; rfl
theorem y6:∀ {as bs:List (Tr × Int)},as.Pairwise (fun p q=>dataLt (aG p.1) (aG q.1)=true)->bs.Pairwise (fun p q=>dataLt (aG p.1) (aG q.1)=true)->(∀ p ∈ as,1<=p.2)->(∀ p ∈ bs,1<=p.2)->(∀ t,sumE as t=sumE bs t)->as=bs
 | [],[],_,_,_,_,_=>rfl
 | [],b::bs,_,h2,_,p2,h=>by
  have:=h b.1;have hz:sumE bs b.1=0:=jt fun q hq z=>by have:=(List.pairwise_cons.mp h2).1 q hq; rw [z,CV] at this; cases this
  have e:sumE (b::bs) b.1=b.2+sumE bs b.1:=by show (if b.1=b.1 then b.2 else 0)+_=_; rw [if_pos rfl]
  rw [e,hz] at this;have:=p2 b (bM ..);have z:sumE ([]:List (Tr × Int)) b.1=0:=rfl;omega
 | a::as,[],h1,_,p1,_,h=>by
  have:=h a.1;have hz:sumE as a.1=0:=jt fun q hq z=>by have:=(List.pairwise_cons.mp h1).1 q hq; rw [z,CV] at this; cases this
  have e:sumE (a::as) a.1=a.2+sumE as a.1:=by show (if a.1=a.1 then a.2 else 0)+_=_; rw [if_pos rfl]
  rw [e,hz] at this;have:=p1 a (bM ..);have z:sumE ([]:List (Tr × Int)) a.1=0:=rfl;omega
 | a::as,b::bs,h1,h2,p1,p2,h=>by
  obtain ⟨a1,a2⟩:=List.pairwise_cons.mp h1;obtain ⟨b1,b2⟩:=List.pairwise_cons.mp h2;have pa:=p1 a (bM ..);have pb:=p2 b (bM ..);have za:∀ t,(t=a.1\/dataLt (aG t) (aG a.1)=true)->sumE as t=0:=fun t ht=>jt fun q hq z=>by
   have q1:=a1 q hq;rw [z] at q1;rcases ht with ht | ht
   ·rw [ht,CV] at q1; cases q1
   ·rw [N5 ht] at q1; cases q1
  have zb:∀ t,(t=b.1\/dataLt (aG t) (aG b.1)=true)->sumE bs t=0:=fun t ht=>jt fun q hq z=>by
   have q1:=b1 q hq;rw [z] at q1;rcases ht with ht | ht
   ·rw [ht,CV] at q1; cases q1
   ·rw [N5 ht] at q1; cases q1
  have ea:∀ t,sumE (a::as) t=(if a.1=t then a.2 else 0)+sumE as t:=fun t=>rfl;have eb:∀ t,sumE (b::bs) t=(if b.1=t then b.2 else 0)+sumE bs t:=fun t=>rfl;have jk:a.1=b.1:=by
   by_cases e:a.1=b.1
   ·exact e
   ·exfalso
    cases dZ:dataLt (aG a.1) (aG b.1) with
    | true =>
     have:=h a.1;rw [ea,eb,if_pos rfl,if_neg (fun z=>e z.symm),za _ (.inl rfl),zb _ (.inr dZ)] at this;omega
    | false =>
     have oa:=HW (enc:=aG) e dZ;have:=h b.1;rw [ea,eb,if_pos rfl,if_neg e,zb _ (.inl rfl),za _ (.inr oa)] at this;omega
  have hm:a.2=b.2:=by
   have:=h a.1;rw [ea,eb,if_pos rfl,if_pos jk.symm,za _ (.inl rfl),zb _ (.inl jk)] at this;omega
  have he:a=b:=Prod.ext jk hm;subst he;rw [y6 a2 b2 (fun p hp=>p1 p (bR _ hp)) (fun p hp=>p2 p (bR _ hp)) fun t=>by have:=h t; rw [ea,eb] at this; omega]
theorem ext {g k:Gr} (hg:g.Ok C) (hk:k.Ok D) (h:∀ t,S g t=S k t):g=k:=by
 have h1:=bj.mp hg;have h2:=bj.mp hk;have:=y6 h1.2 h2.2 (fun p hp=>(h1.1 p hp).2.2.1) (fun p hp=>(h2.1 p hp).2.2.1) h;rw [<- aC g,<- aC k,this]
end Gr
theorem Fv (h:n<=1000000):n < sizeLine:=by
 have:sizeLine=16777216:=sizeLine_eq;omega
open PySem.Sem in
theorem zbm {v:Value} {o:Obj} {Hh:Heap->Prop} (Bg:Begins v o Hh) :
  Meets (Builtin.«enumerate.__new__» ⟨[.type "enumerate",v],[]⟩) (fun _ R s=>Hh s.heap/\R (.ok (.ret (.ref (s.heap.push o).objs.size))) { s with heap:=(s.heap.push o).push { cls:=.type "enumerate",data:=.fields #[.none,.bool false,.ref s.heap.objs.size,rawInt 0,.none,.none] } }) :=
 .of_wp fun prog w A R s h=>by
  obtain ⟨hp,g,d,tk,os⟩:=s;obtain ⟨h1,h⟩:=h;have yas:=sub_enumerate;have go:∀ {A2:Around} {E2:Value->Shared->Prop} {Q2:Value->Shared->Prop},Q2 (.ref hp.objs.size) ⟨hp.push o,g,d,tk,os⟩->wpAny (model prog w) A2 (pyIter v) Q2 E2 ⟨hp,g,d,tk,os⟩:=fun z=>Bg.iter prog w _ _ ⟨hp,g,d,tk,os⟩ _ h1 z
  wp_walk using go
  refine wpAny_stack_any fun stk=>wpAny_pure ?_
  split
  ·rename_i cl _ _ _ _ _;cases (cl == Value.type "enumerate") <;> (wp_walk using go; exact ⟨_,Ja,h⟩)
  ·wp_walk using go; exact ⟨_,Ja,h⟩
section
variable {prog:Program} {w:World} {A:Around} {E:Value->Shared->Prop} {s:Shared}
theorem zbf {t:Addr} {items:Array Value} {Q:Value->Shared->Prop} (hT:s.heap.IsTuple t items)
  (h:∀ h2,IsEnum h2 (s.heap.objs.size+1) s.heap.objs.size 0 .none->h2.IsTupleIter s.heap.objs.size t 0->(∀ b ob,s.heap.get? b=some ob->h2.get? b=some ob)->Q (.ref (s.heap.objs.size+1)) { s with heap:=h2 }):wpAny (model prog w) A (call (.type "enumerate") [.ref t]) Q E s:=by
 have Bg:=begins_tuple t items;refine callType_new F.called_enumerate (by decide) (F.typeCall_enumerate_1 _) (F.newCall_enumerate_1 _) (fun ob=>F.args_object_init_2 ob _) F.entry_enumerate_new (zbm Bg) ⟨hT,?_⟩;have hz:(s.heap.push { cls:=.type "tuple_iterator",data:=.fields #[.ref t,.int 0 0] }).objs.size=s.heap.objs.size+1:=Heap.size_push ..;show _/\_;rw [hz];have he:IsEnum ((s.heap.push { cls:=.type "tuple_iterator",data:=.fields #[.ref t,.int 0 0] }).push { cls:=.type "enumerate",data:=.fields #[.none,.bool false,.ref s.heap.objs.size,rawInt 0,.none,.none] }) (s.heap.objs.size+1) s.heap.objs.size 0 .none:=by
  have z:=Heap.get?_push_size (s.heap.push { cls:=.type "tuple_iterator",data:=.fields #[.ref t,.int 0 0] }) (o:={ cls:=.type "enumerate",data:=.fields #[.none,.bool false,.ref s.heap.objs.size,rawInt 0,.none,.none] }) rfl;rw [hz] at z;exact z
 exact ⟨⟨_,he,Ja⟩,h _ he ⟨_,Heap.get?_push_of_some _ (Heap.get?_push_size _ rfl),Ja,Ja⟩ fun b ob x=>Heap.get?_push_of_some _ (Heap.get?_push_of_some _ x)⟩
end
def EO (K:Qn) (a:Addr):It :=
 ⟨fun i H=>∃ (xs:List V) (x:V),SqT K H a xs/\xs[i]?=some x,
  fun i H v H2=>∃ T x,v=.ref T/\H T=none/\H2=upd H T (.tup [.int (i:Nat),x])/\∀ xs,SqT K H a xs->xs[i]?=some x,
  fun i H=>∃ xs:List V,SqT K H a xs/\xs.length=i⟩
theorem zbd {w:World} (a e it:Addr) (Eg:e ≠ it) (KI:a ≠ it) (SV:e ≠ a) :
  Turn P w K (.Tuple elts kk xZ) (EO K a) [e,it] e (fun i h=>(∃ old,IsEnum h e it ((i:Nat):Int) old)/\h.IsTupleIter it a i) where
 mem:=by simp
 obj:=fun i h st b hb=>by
  obtain ⟨⟨old,he⟩,o,ho,hc,hd⟩:=st;rcases (show b=e\/b=it by simpa using hb) with z | z
  ·rw [z]; exact ⟨_,he,fun v q=>nomatch q⟩
  ·rw [z]; exact ⟨o,ho,fun v q=>by rw [hd] at q; cases q⟩
 keep:=fun i h h2 st k=>let ⟨⟨old,he⟩,o,ho,r⟩:=st; ⟨⟨old,k e (by simp) _ he⟩,o,k it (by simp) o ho,r⟩
 item:=by
  intro X hP hw hK hc i pins s σ H E I hf st hg;subst hP hw hK;obtain ⟨⟨old,he⟩,hit⟩:=st;obtain ⟨xs,x,hq,hx⟩:=hg;obtain ⟨cf,rv,p,hz⟩:=I.tuple hq;obtain ⟨u,hu,ru⟩:=rv.get hx;have BZ:e < s.heap.objs.size:=Heap.lt_size he;have SA:it < s.heap.objs.size:=by obtain ⟨_,z,_⟩:=hit; exact Heap.lt_size z
  have Dr:=Draws.tuple (prog:=X.prog) (w:=X.w) (A:=X.A.in1) (I.ok.hd hc) it a KI cf.toArray;have dZ:i < cf.toArray.size:=by
   have:=(Kq hu).1;simpa using this
  refine wpAny_pyNext_enum_itemD Dr he ⟨hit,p⟩ dZ Eg (by simp [Eg,SV]) fun y h2 tk hy ho jB hT oL hk=>?_;have RX:y=u:=by
   have h3:cf[i]?=some y:=by simpa using hy
   rw [hu] at h3; exact (Yd h3).symm
  subst RX;refine ⟨_,rfl,wpAny_letOwnedTupleGo_enum (s:={ s with heap:=h2,toks:=tk+1 }) ho fun h3 yN sb=>?_⟩;have sG:h3.get? s.heap.objs.size=some { cls:=.type "tuple",data:=.seq #[.int i tk,y] }:=(sb.2 _ (Nat.ne_of_gt BZ)).trans hT;have nw:ObjOk X.prog X.w (upd H s.heap.objs.size (.tup [.int (i:Nat),x])) h3 s.heap.objs.size (.tup [.int (i:Nat),x]):=⟨dY,[.int i tk,y],.cons ⟨_,rfl⟩ (.cons ru .nil),⟨_,sG,rfl,_,rfl⟩⟩;have I1:Inv X pins σ (upd H s.heap.objs.size (.tup [.int (i:Nat),x])) { s with heap:=h3,toks:=tk+1 }:=I.turnedNew (ch:=[e,it]) (fun b ob hb z=>(sb.2 b (fun y=>hb (by simp [y]))).trans (hk b ob (fun y=>hb (by simp [y])) (fun y=>hb (by simp [y])) z)) hf (Yc _) nw;refine ⟨.ref s.heap.objs.size,_,I1,Ja,⟨_,x,Ja,I.hok.fresh (Yc _),Ja,fun ys hy=>by rw [I.tuple_inj hy hq]; exact hx⟩,⟨⟨y,?_⟩,?_⟩,fun b hb=>?_⟩
  ·rw [show ((i+1:Nat):Int)=(i:Int)+1 by omega]; exact yN
  ·obtain ⟨o,Y1,r⟩:=jB.1;exact ⟨o,(sb.2 it (Ne.symm Eg)).trans Y1,r⟩
  ·have bS:b < s.heap.objs.size:=by
    rcases (show b=e\/b=it by simpa using hb) with z | z
    ·rw [z]; exact BZ
    ·rw [z]; exact SA
   rw [upd_ne (Nat.ne_of_lt bS)]; exact (hf b hb).1
 done:=by
  intro X hP hw hK hc i pins s σ H E I hf st hg;subst hP hw hK;obtain ⟨⟨old,he⟩,hit⟩:=st;obtain ⟨xs,hq,hx⟩:=hg;obtain ⟨cf,rv,p,hz⟩:=I.tuple hq;obtain ⟨f0,f1,f2,f3,f4,f5⟩:=hf it (by simp);have hl:=rv.length;have ht:s.heap.IsTuple a cf.toArray:=p;have Dr:=Draws.tuple (prog:=X.prog) (w:=X.w) (A:=X.A.in1) (I.ok.hd hc) it a KI cf.toArray;have hn:cf.toArray.size=i:=by simp; omega
  refine wpAny_pyNext_enum_endD Dr he ⟨by rw [hn]; exact hit,ht⟩ fun h2 eb=>⟨rfl,I.turned (t':=s.toks) (fun b o hb z=>eb b o hb z) f0 f1 f3 f4 f5⟩
 self:=fun A i s Q E st h=>let ⟨⟨_,he⟩,_⟩:=st; wpAny_pyIter_enum he h
def zgo (K:Qn) (te:TE):TI:=fun σ H R=>te σ H fun v H1=>∃ a xs,v=.ref a/\SqT K H1 a xs/\R (EO K a) H1
theorem zco {X:Cx} {ex:Expr} {te:TE} {p pos:Pos} (hg:Gl X "enumerate") (hm:X.mg "enumerate"=none) (he:PE X ex te) (hs:starEach [ex] X.env=(false,eval ex X.env)::starEach [] X.env:=by rfl) :
  PI X (.Tuple elts kk xZ) (.Call (.Name "enumerate" p) [ex] [] pos) (zgo X.K te):=by
 refine ⟨fun pins s σ H R I h=>?_⟩;refine Call_ (ld_blt I hg hm boot_enumerate (PyProof.Rows.callWith_type1 (args_cons (thn (he.run pins s σ H _ I h) fun u s1 ⟨v,H1,I1,r1,q1⟩=>args_nil ?_) hs) hs rfl));obtain ⟨a,xs,ev,hq,q⟩:=q1;subst ev;cases r1;obtain ⟨cf,rv,pt,hz⟩:=I1.tuple hq;have ht:s1.heap.IsTuple a cf.toArray:=pt;have oR:a < s1.heap.objs.size:=by obtain ⟨_,z,_⟩:=ht; exact Heap.lt_size z
 refine zbf ht fun h2 qY hit hk=>wpAny_pyIter_enum qY ?_;have I2:Inv X pins σ H1 { s1 with heap:=h2 }:=I1.kept (t':=s1.toks) hk;refine ⟨s1.heap.objs.size+1,[s1.heap.objs.size+1,s1.heap.objs.size],_,_,H1,Ja,I2,zbd a (s1.heap.objs.size+1) s1.heap.objs.size (Nat.succ_ne_self _) (Nat.ne_of_lt oR) (Nat.ne_of_gt (Nat.lt_succ_of_lt oR)),⟨⟨.none,qY⟩,hit⟩,fun b hb=>?_,q⟩;have hle:s1.heap.objs.size<=b:=by
  rcases (show b=s1.heap.objs.size+1\/b=s1.heap.objs.size by simpa using hb) with z | z
  ·rw [z]; exact Nat.le_add_right _ _
  ·rw [z]; exact Yc _
 exact I1.fpOk hle (I1.hok.fresh hle)
theorem zb0:Walk (EO K a) xs.length (fun H=>SqT K H a xs) (YPair (fun i=>some (.int (i:Nat))) (fun i=>xs[i]?)):=by
 refine ⟨fun i _ hi q=>⟨xs,xs[i],q,by simp [hi]⟩,fun _ q=>⟨xs,q,Ja⟩,fun i H v H2 _ q y=>?_⟩;obtain ⟨T,x,h1,h2,h3,h4⟩:=y;exact ⟨T,.int (i:Nat),x,h1,h2,h3,Ja,h4 xs q⟩
abbrev Pl:=List Nat
def pG (p:Pl):List PyData:=p.map fun n:Nat=>.int (n:Int)
def xP (p:Pl):PyData:=.tuple (pG p)
theorem Xp:∀ p q:Pl,alikeAll (pG p) (pG q)=true
 | [],_=>by simp [pG,alikeAll]
 | _::_,[]=>by simp [pG,alikeAll]
 | a::p,b::q=>by
  have:=Xp p q;show alikeAll (.int a::pG p) (.int b::pG q)=true;simp [alikeAll,alike,this]
theorem VW:∀ p q:Pl,PyData.eqvAll (pG p) (pG q)=decide (p=q)
 | [],[]=>by simp [pG,PyData.eqvAll]
 | [],_::_=>by simp [pG,PyData.eqvAll]
 | _::_,[]=>by simp [pG,PyData.eqvAll]
 | a::p,b::q=>by
  have ih:=VW p q;show PyData.eqvAll (.int a::pG p) (.int b::pG q)=_;simp only [PyData.eqvAll,PyData.eqv,ih,ib];by_cases h:a=b
  ·subst h; simp
  ·have:¬ ((a:Int)=(b:Int)):=by omega
   simp [h,this]
instance:Orderly xP where
 al a b:=by show alike (.tuple _) (.tuple _)=true; rw [alike]; exact Xp a b
 eq a b:=by show PyData.eqv (.tuple _) (.tuple _)=_; rw [PyData.eqv]; exact VW a b
theorem vX (p:Pl):noList (xP p)=true:=by
 have:∀ p:Pl,jw (pG p)=true:=by
  intro p
  induction p with
  | nil=>simp [pG,jw]
  | cons a r ih=>show jw (.int a::pG r)=true; simp [jw,noList,ih]
 show noList (.tuple _)=true;rw [noList]; exact this p
theorem PB {p:Pl} (h:Dp K H v (xP p)):∃ a,v=.ref a/\SqT K H a (p.map fun n:Nat=>V.int (n:Int)):=by
 have key:∀ {p:Pl} {xs:List V},DpAll K H xs (pG p)->xs=p.map fun n:Nat=>V.int (n:Int):=by
  intro p
  induction p with
  | nil=>intro xs h; cases h; rfl
  | cons a r ih =>
   intro xs h;cases h with
   | cons h1 h2=>cases h1; rw [ih h2]; rfl
 cases h with
 | tup hs ha=>rw [key ha] at hs; exact ⟨_,Ja,hs⟩
theorem NJ {p:Pl} (h:SqT K H a (p.map fun n:Nat=>V.int (n:Int))):Dp K H (.ref a) (xP p):=by
 refine Dp.tup h ?_;have key:∀ p:Pl,DpAll K H (p.map fun n:Nat=>V.int (n:Int)) (pG p):=by
  intro p
  induction p with
  | nil=>exact .nil
  | cons a r ih=>exact .cons (.int _) ih
 exact key p
def Wh (K:Qn) (H:Hp) (v:V) (o:Option Int):Prop:=(∃ i,v=.int i/\o=some i)\/(o=none/\∃ (n:String) (b1 b2:Bool),TyX K H v (.type n)/\kitB n "int"=some b1/\(b1=true->kitB n "bool"=some b2)/\(b1&&!b2)=false)
inductive Whs (K:Qn) (H:Hp):List V->List (Option Int)->Prop where
 | nil:Whs K H [] []
 | cons {v:V} {o:Option Int} {vs:List V} {os:List (Option Int)}:Wh K H v o->Whs K H vs os->Whs K H (v::vs) (o::os)
section
variable {K:Qn} {H H':Hp}
theorem Whs.length:∀ {vs:List V} {os:List (Option Int)},Whs K H vs os->vs.length=os.length
 | _,_,.nil=>rfl
 | _,_,.cons _ h=>congrArg (·+1) h.length
theorem Whs.get:∀ {vs:List V} {os:List (Option Int)},Whs K H vs os->∀ {i:Nat} {v:V},vs[i]?=some v->∃ o,os[i]?=some o/\Wh K H v o
 | _,_,.nil,i,v,e=>by simp at e
 | _,_,.cons (o:=o) h hs,0,v,e=>by
  have:_=v:=Yd e;subst this; exact ⟨o,Ja,h⟩
 | _,_,.cons h hs,i+1,v,e=>hs.get (i:=i) e
theorem Whs.append:∀ {vs us:List V} {os ps:List (Option Int)},Whs K H vs os->Whs K H us ps->Whs K H (vs++us) (os++ps)
 | _,_,_,_,.nil,h=>h
 | _,_,_,_,.cons a b,h=>.cons a (b.append h)
theorem Wh.sb {o:Option Int} (h:Wh K H v o) (e:SB [] H H'):Wh K H' v o:=by
 rcases h with h | ⟨h,n,b1,b2,ty,k⟩
 ·exact .inl h
 ·exact .inr ⟨h,n,b1,b2,CP e (fun _ _=>aP) ty,k⟩
theorem Whs.sb (e:SB [] H H'):∀ {vs:List V} {os:List (Option Int)},Whs K H vs os->Whs K H' vs os
 | _,_,.nil=>.nil
 | _,_,.cons h hs=>.cons (h.sb e) (Whs.sb e hs)
def ik (p:Pl):List (Option Int):=p.map fun n:Nat=>some (n:Int)
theorem Whs.pl (K:Qn) (H:Hp):∀ p:Pl,Whs K H (p.map fun n:Nat=>V.int (n:Int)) (ik p)
 | []=>.nil
 | n::r=>.cons (.inl ⟨_,rfl,rfl⟩) (Whs.pl K H r)
end
def stp (g:Gr):Option Int->Option Tr
 | none=>none
 | some n=>if 0<=n then (g.ps[n.toNat]?).map (·.1) else none
def lk:Tr->List (Option Int)->Option Tr
 | t,[]=>some t
 | t,o::r=>(stp t.2 o).bind fun u=>lk u r
theorem Oi:∀ (t:Tr) (as bs:List (Option Int)),lk t (as++bs)=(lk t as).bind fun u=>lk u bs
 | t,[],bs=>rfl
 | t,o::r,bs=>by
  show (stp t.2 o).bind (fun u=>lk u (r++bs))=((stp t.2 o).bind fun u=>lk u r).bind fun u=>lk u bs;cases stp t.2 o with
  | none=>rfl
  | some u=>exact Oi u r bs
theorem zfu {t:Tr} {os:List (Option Int)} {o:Option Int} {u:Tr} (h1:lk t (os.take i)=some u) (h2:os[i]?=some o) (h3:stp u.2 o=none):lk t os=none:=by
 have hl:i < os.length:=(Kq h2).1;have e:os=os.take i++o::os.drop (i+1):=by
  have:=List.drop_eq_getElem_cons hl;rw [(Kq h2).2] at this;rw [<- this,List.take_append_drop]
 rw [e,Oi,h1];show (stp u.2 o).bind _=none;rw [h3]; rfl
theorem zez {t:Tr} {os:List (Option Int)} {o:Option Int} {u x:Tr} (h1:lk t (os.take i)=some u) (h2:os[i]?=some o) (h3:stp u.2 o=some x):lk t (os.take (i+1))=some x:=by
 rw [Yg,h2,Oi,h1];show (stp u.2 o).bind _=some x;rw [h3]; rfl
def N4 (K:Qn) (C:Addr):Sp:=fun vs H Q E=>∃ (v:V) (g:Gr) (a:Addr) (xs:List V) (os:List (Option Int)),vs=[v,.ref a]/\GA K H v g/\SqT K H a xs/\Whs K H xs os /\
 (∀ t,os ≠ []->lk ("",g) os=some t->∀ (x:V) (H':Hp),SB [] H H'->Dp K H' x (Gr.aG t)->Q x H')/\((os=[]\/lk ("",g) os=none)->∀ H',SB [] H H'->E (.ref C) none H')
mutual
inductive Tg (K:Qn) (H:Hp):V->PyData->Prop
 | int (i:Int):Tg K H (.int i) (.int i)
 | str (z:Str):z.length<=1000->Tg K H (.str z) (.str z)
 | tup {a:Addr} {xs:List V} {ds:List PyData}:SqT K H a xs->TgAll K H xs ds->Tg K H (.ref a) (.tuple ds)
 | oth {v:V} {n:String}:TyX K H v (.type n)->kitB n "tuple"=some false->kitB n "str"=some false->(kitB n "int"=some false\/n="bool")->Tg K H v .none
inductive TgAll (K:Qn) (H:Hp):List V->List PyData->Prop
 | nil:TgAll K H [] []
 | cons {v:V} {vs:List V} {d:PyData} {ds:List PyData}:Tg K H v d->TgAll K H vs ds->TgAll K H (v::vs) (d::ds)
end
mutual
def zS:PyData->PyData
 | .int i=>.int i
 | .tuple ds=>.tuple (HU ds)
 | _=>.none
def HU:List PyData->List PyData
 | []=>[]
 | d::r=>zS d::HU r
end
theorem XA (d:PyData):qS (zS d)=qS d:=by cases d <;> simp [zS,qS]
section
variable {K:Qn} {H H':Hp}
mutual
theorem Tg.th:∀ {v:V} {d:PyData},Tg K H v d->Th K [] H v (zS d)
 | _,_,.int i=>by rw [zS]; exact .int i
 | _,_,.str z _=>by rw [zS] <;> first | exact .oth (.base (.str z)) (by decide +kernel) (.inl (by decide +kernel)) (fun _ _=>aP) | simp
 | _,_,.tup hs ha=>by rw [zS]; exact .tup hs (TgAll.th ha)
 | _,_,.oth ty k1 _ k2=>by rw [zS] <;> first | exact .oth ty k1 k2 (fun _ _=>aP) | simp
theorem TgAll.th:∀ {vs:List V} {ds:List PyData},TgAll K H vs ds->z5s K [] H vs (HU ds)
 | _,_,.nil=>by rw [HU]; exact .nil
 | _,_,.cons h t=>by rw [HU]; exact .cons (Tg.th h) (TgAll.th t)
end
mutual
theorem zR (e:SB [] H H'):∀ {v:V} {d:PyData},Tg K H v d->Tg K H' v d
 | _,_,.int i=>.int i
 | _,_,.str z hz=>.str z hz
 | _,_,.tup hs ha=>.tup (e.aL hs) (P8 e ha)
 | _,_,.oth ty k0 k1 k2=>.oth (CP e (fun _ _=>aP) ty) k0 k1 k2
theorem P8 (e:SB [] H H'):∀ {vs:List V} {ds:List PyData},TgAll K H vs ds->TgAll K H' vs ds
 | _,_,.nil=>.nil
 | _,_,.cons h t=>.cons (zR e h) (P8 e t)
end
theorem TgAll.length:∀ {vs:List V} {ds:List PyData},TgAll K H vs ds->vs.length=ds.length
 | _,_,.nil=>rfl
 | _,_,.cons _ t=>by rw [Yk,Yk,TgAll.length t]
theorem TgAll.get:∀ {vs:List V} {ds:List PyData} {i:Nat} {v:V},TgAll K H vs ds->vs[i]?=some v->∃ d,ds[i]?=some d/\Tg K H v d
 | _,_,_,_,.nil,e=>by simp at e
 | _,_,0,_,.cons h t,e=>by simp at e; subst e; exact ⟨_,Ja,h⟩
 | _,_,i+1,v,.cons h t,e=>by
  obtain ⟨d,h1,h2⟩:=TgAll.get (i:=i) (v:=v) t (by simpa using e);exact ⟨d,by simpa using h1,h2⟩
theorem Tg.ty {v:V} {d:PyData} (h:Tg K H v d):∃ n b,TyX K H v (.type n)/\kitB n "tuple"=some b/\(b=true->∃ a xs ds,v=.ref a/\d=.tuple ds/\SqT K H a xs/\TgAll K H xs ds)/\(b=false->∀ ds,d ≠ .tuple ds):=by
 cases h with
 | int i=>exact ⟨"int",false,.base (.int i),by decide +kernel,fun z=>(nomatch z),fun _ ds z=>nomatch z⟩
 | str z hz=>exact ⟨"str",false,.base (.str z),by decide +kernel,fun z=>(nomatch z),fun _ ds z=>nomatch z⟩
 | tup hs ha=>exact ⟨"tuple",true,(xy hs),by decide +kernel,fun _=>⟨_,_,_,rfl,rfl,hs,ha⟩,fun z=>(nomatch z)⟩
 | oth ty k1 _ k2=>exact ⟨_,false,ty,k1,fun z=>(nomatch z),fun _ ds z=>nomatch z⟩
theorem Tg.txt {d:PyData} (h:Tg K H v d):∃ n b,TyX K H v (.type n)/\kitB n "str"=some b/\(b=true->∃ z,v=.str z/\d=.str z/\z.length<=1000)/\(b=false->∀ z,d ≠ .str z):=by
 cases h with
 | int i=>exact ⟨"int",false,.base (.int i),by decide +kernel,fun z=>(nomatch z),fun _ ds z=>nomatch z⟩
 | str z hz=>exact ⟨"str",true,.base (.str z),by decide +kernel,fun _=>⟨z,rfl,rfl,hz⟩,fun z=>(nomatch z)⟩
 | tup hs ha=>exact ⟨"tuple",false,(xy hs),by decide +kernel,fun z=>(nomatch z),fun _ ds z=>nomatch z⟩
 | oth ty _ k1 k2=>exact ⟨_,false,ty,k1,fun z=>(nomatch z),fun _ ds z=>nomatch z⟩
end
instance (z:Str):Decidable (dE z):=inferInstanceAs (Decidable (_/\_/\_))
def vV:PyData->Bool
 | .str z=>decide (dE z)
 | _=>false
mutual
def jF:PyData->Bool
 | .tuple ds=>j1 ds&&HY (ds.map om)
 | _=>false
def j1:List PyData->Bool
 | []=>true
 | d::ds=>jE d&&j1 ds
def jE:PyData->Bool
 | .tuple ds=>oj ds
 | _=>false
def oj:List PyData->Bool
 | []=>false
 | t::r=>lT t&&sW r
def lT:PyData->Bool
 | .tuple ds=>rD ds
 | _=>false
def rD:List PyData->Bool
 | []=>false
 | k::r=>vV k&&tL r
def tL:List PyData->Bool
 | []=>false
 | g::r=>jF g&&r.isEmpty
end
theorem zcj {r:List PyData} (h:sW r=true):∃ i,r=[.int i]/\(1:Int)<=i:=by
 match r,h with
 | [],h=>simp [sW] at h
 | .int i::[],h=>simp [sW,qS] at h; exact ⟨i,Ja,h⟩
 | .int i::_::_,h=>simp [sW] at h
 | .none::_,h=>simp [sW,qS] at h
 | .bool _::_,h=>simp [sW,qS] at h
 | .str _::_,h=>simp [sW,qS] at h
 | .list _::_,h=>simp [sW,qS] at h
 | .dict _::_,h=>simp [sW,qS] at h
 | .tuple _::_,h=>simp [sW,qS] at h
theorem QF {d:PyData} (h:vV d=true):∃ z,d=.str z/\dE z:=by
 cases d with
 | str z=>exact ⟨z,Ja,Ks h⟩
 | _=>simp [vV] at h
mutual
theorem QH:∀ d:PyData,jF d=true->∃ g:Gr,d=g.enc
 | .tuple ds,h=>by
  rw [jF,Bool.and_eq_true] at h;obtain ⟨g,e⟩:=P9 ds h.1;exact ⟨g,by rw [e]; rfl⟩
 | .none,h=>by simp [jF] at h
 | .bool _,h=>by simp [jF] at h
 | .int _,h=>by simp [jF] at h
 | .str _,h=>by simp [jF] at h
 | .list _,h=>by simp [jF] at h
 | .dict _,h=>by simp [jF] at h
theorem P9:∀ ds:List PyData,j1 ds=true->∃ g:Gr,ds=g.encs
 | [],_=>⟨.nil,rfl⟩
 | d::ds,h=>by
  rw [j1,Bool.and_eq_true] at h;obtain ⟨r,er⟩:=P9 ds h.2;obtain ⟨t,i,ed,he⟩:=PL d h.1;exact ⟨.cons t.1 t.2 i r,by rw [er,ed]; rfl⟩
theorem PL:∀ d:PyData,jE d=true->∃ (t:Tr) (i:Int),d=.tuple [Gr.aG t,.int i]/\(1:Int)<=i
 | .tuple ds,h=>by
  rw [jE] at h;obtain ⟨e,i,ed,he⟩:=zcr ds h;exact ⟨e,i,by rw [ed],he⟩
 | .none,h=>by simp [jE] at h
 | .bool _,h=>by simp [jE] at h
 | .int _,h=>by simp [jE] at h
 | .str _,h=>by simp [jE] at h
 | .list _,h=>by simp [jE] at h
 | .dict _,h=>by simp [jE] at h
theorem zcr:∀ ds:List PyData,oj ds=true->∃ (t:Tr) (i:Int),ds=[Gr.aG t,.int i]/\(1:Int)<=i
 | [],h=>by simp [oj] at h
 | d::r,h=>by
  rw [oj,Bool.and_eq_true] at h;obtain ⟨t,et⟩:=Wc d h.1;obtain ⟨i,er,hi⟩:=zcj h.2;exact ⟨t,i,by rw [et,er],hi⟩
theorem Wc:∀ d:PyData,lT d=true->∃ t:Tr,d=Gr.aG t
 | .tuple ds,h=>by
  rw [lT] at h;obtain ⟨t,et⟩:=zct ds h;exact ⟨t,by rw [et]; rfl⟩
 | .none,h=>by simp [lT] at h
 | .bool _,h=>by simp [lT] at h
 | .int _,h=>by simp [lT] at h
 | .str _,h=>by simp [lT] at h
 | .list _,h=>by simp [lT] at h
 | .dict _,h=>by simp [lT] at h
theorem zct:∀ ds:List PyData,rD ds=true->∃ t:Tr,ds=[.str t.1,t.2.enc]
 | [],h=>by simp [rD] at h
 | d::r,h=>by
  rw [rD,Bool.and_eq_true] at h;obtain ⟨z,ez,_⟩:=QF h.1;obtain ⟨g,eg⟩:=zcs r h.2;exact ⟨(z,g),by rw [ez,eg]⟩
theorem zcs:∀ ds:List PyData,tL ds=true->∃ g:Gr,ds=[g.enc]
 | [],h=>by simp [tL] at h
 | d::r,h=>by
  rw [tL,Bool.and_eq_true] at h;obtain ⟨g,eg⟩:=QH d h.1;have:r=[]:=by cases r with | nil=>rfl | cons _ _=>simp at h
  exact ⟨g,by rw [eg,this]⟩
end
section
variable {K:Qn} {H:Hp}
theorem Pk {C:Int}:∀ (g:Gr) {vs:List V},g.Ok C->DpAll K H vs g.encs->TgAll K H vs g.encs
 | .nil,vs,_,h=>by cases h; exact .nil
 | .cons k g m r,vs,ho,h=>by
  cases h with
  | cons h1 h2 =>
   refine .cons ?_ (Pk r ho.2.2.2.2.1 h2);cases h1 with
   | tup hs ha =>
    cases ha with
    | cons h3 h4 =>
     cases h4 with
     | cons h5 h6 =>
      cases h6; cases h5;refine .tup hs (.cons ?_ (.cons (.int _) .nil));cases h3 with
      | tup dM hb =>
       cases hb with
       | cons h7 h8 =>
        cases h8 with
        | cons h9 KZ =>
         cases KZ; cases h7;cases h9 with
         | tup n5 hc=>exact .tup dM (.cons (.str _ (by have:=ho.1.2.1; simp [Str.length]; simp at this; omega)) (.cons (.tup n5 (Pk g ho.2.1 hc)) .nil))
theorem CJ:∀ (g:Gr) {vs:List V},TgAll K H vs g.encs->DpAll K H vs g.encs
 | .nil,vs,h=>by cases h; exact .nil
 | .cons k g m r,vs,h=>by
  cases h with
  | cons h1 h2 =>
   refine .cons ?_ (CJ r h2);cases h1 with
   | tup hs ha =>
    cases ha with
    | cons h3 h4 =>
     cases h4 with
     | cons h5 h6 =>
      cases h6; cases h5;refine .tup hs (.cons ?_ (.cons (.int _) .nil));cases h3 with
      | tup dM hb =>
       cases hb with
       | cons h7 h8 =>
        cases h8 with
        | cons h9 KZ =>
         cases KZ; cases h7;cases h9 with
         | tup n5 hc=>exact .tup dM (.cons (.str _) (.cons (.tup n5 (CJ g hc)) .nil))
end
def Pr (K:Qn):Sp:=fun vs H Q _=>∃ (v:V) (d:PyData),vs=[v]/\Tg K H v d/\∀ H',SB [] H H'->Q (.bl (vV d)) H'
def Im (K:Qn) (n:Nat):Sp:=fun vs H Q _=>∃ (v:V) (d:PyData),vs=[v]/\Tg K H v d/\d.depth < n/\d.depth<=80/\wide d<=1000/\∀ H',SB [] H H'->Q (.bl (lT d)) H'
def FP (K:Qn) (n:Nat):Sp:=fun vs H Q _=>∃ (v:V) (d:PyData),vs=[v]/\Tg K H v d/\d.depth < n/\d.depth<=80/\wide d<=1000/\∀ H',SB [] H H'->Q (.bl (jF d)) H'
def Ik (K:Qn) (tp:Bool) (n:Nat):Sp:=fun vs H Q _=>∃ (a:Addr) (xs:List V) (ds:List PyData),vs=[.ref a]/\(if tp=true then SqT K H a xs else SqL K H a xs)/\TgAll K H xs ds/\PyData.depthAll ds < n/\PyData.depthAll ds<=79/\wide (.tuple ds)<=1000/\∀ H',SB [] H H'->Q (.bl (j1 ds)) H'
def VP (K:Qn):Sp:=fun vs H Q _=>∃ (z y:Str) (k:Nat),vs=[.str z,.int (k:Int),.str y]/\z.length<=100000/\k<=z.length/\∀ e:Nat,k<=e->e<=z.length->(∀ j c,k<=j->j < e->z.cps.toList[j]?=some c->c ∈ y.cps.toList)->(∀ c,z.cps.toList[e]?=some c->c ∉ y.cps.toList)->Q (.str (cutS z (some (k:Int)) (some (e:Int)))) H
theorem V5 (c:Nat):c ∈ tw.cps.toList ↔ 97<=c/\c<=122:=by
 have e:tw.cps.toList=(List.range 26).map (·+97):=by decide +kernel
 rw [e,List.mem_map];constructor
 ·rintro ⟨x,hx,rfl⟩
  have:=List.mem_range.mp hx;omega
 ·intro h;exact ⟨c-97,List.mem_range.mpr (by omega),by omega⟩
theorem NZ (z:Str):z.cps.toList.length=z.length:=by simp [Str.length]
theorem My (z:Str) {e:Nat} (he:e<=z.length):(cutS z (some ((0:Nat):Int)) (some (e:Int))).cps.toList=z.cps.toList.take e:=by
 unfold cutS;rw [HT.sIx_nat,HT.sIx_nat];simp [Nat.min_eq_left he]
theorem zde {e:Nat} (h1:1<=z.length) (h8:z.length<=8) (he:e<=z.length) (yM:∀ j c,0<=j->j < e->z.cps.toList[j]?=some c->c ∈ tw.cps.toList) (uD:∀ c,z.cps.toList[e]?=some c->c ∉ tw.cps.toList) :
  decide (V.str (cutS z (some ((0:Nat):Int)) (some (e:Int)))=V.str z)=vV (.str z):=by
 have hl:=NZ z;rw [Bool.eq_iff_iff,decide_eq_true_iff,vV,decide_eq_true_iff];constructor
 ·intro h
  injection h with h
  have h2:=My z he;rw [h] at h2;have h3:z.cps.toList.length=min e z.cps.toList.length:=by
   have:=congrArg List.length h2
   rwa [Kx] at this
  refine ⟨by omega,by omega,fun c hc=>?_⟩;obtain ⟨j,hj⟩:=List.mem_iff_getElem?.mp hc;have hj2:=(Kq hj).1;exact (V5 c).mp (yM j c (Nat.zero_le _) (by omega) hj)
 ·rintro ⟨_,_,oh⟩
  have e1:e=z.length:=by
   rcases Nat.lt_or_ge e z.length with h | h
   ·obtain ⟨c,hc⟩:∃ c,z.cps.toList[e]?=some c:=⟨_,Kp (by omega)⟩;exact absurd ((V5 c).mpr (oh c (Qu hc))) (uD c hc)
   ·omega
  have h2:=My z he;rw [e1,<- hl,Yh] at h2
  congr 1
  have h3:∀ a b:Str,a.cps.toList=b.cps.toList->a=b:=by
   intro a b jk;cases a; cases b
   congr 1
   exact Array.toList_inj.mp jk
  rw [e1,<- hl];exact h3 _ _ h2
theorem WB (h:¬ (1<=z.length/\z.length<=8)):vV (.str z)=false:=by
 have hl:=NZ z;rw [vV];exact Qz fun ⟨h1,h2,_⟩=>h ⟨by omega,by omega⟩
theorem Wk (h:dE z):vV (.str z)=true:=Ya h
theorem zdf {t:Tr} (h0:dE t.1) (h:jF t.2.enc=true):lT (Gr.aG t)=true:=by
 rw [Gr.aG,lT,rD,tL,Wk h0,h]; rfl
theorem zin {t:Tr} (h0:dE t.1) (h:jF t.2.enc=true) (hm:1<=m):jE (Gr.aB (t,m))=true:=by
 show jE (.tuple [Gr.aG t,.int m])=true;rw [jE,oj,sW,zdf h0 h];simp [qS,hm]
theorem Oj {C:Int}:∀ {g:Gr},g.Ok C->jF g.enc=true
 | .nil,_=>by decide +kernel
 | .cons k g m r,⟨h0,h1,h2,h3,h4,h5⟩=>by
  have a1:=Oj h1;have a2:=Oj h4;rw [Gr.enc,jF,Bool.and_eq_true] at a2;have hp:jE (Gr.aB ((k,g),m))=true:=zin h0 a1 h2;have e:(Gr.cons k g m r).encs=Gr.aB ((k,g),m)::r.encs:=rfl;rw [Gr.enc,jF,e,j1,hp,a2.1,Bool.true_and,Bool.true_and,Ky];cases r with
  | nil=>rfl
  | cons k2 g2 m2 r2 =>
   have dZ:dataLt (Gr.aG (k,g)) (Gr.aG (k2,g2))=true:=h5 ((k2,g2),m2) (bM ..);have e2:(Gr.cons k2 g2 m2 r2).encs=Gr.aB ((k2,g2),m2)::r2.encs:=rfl;have a3:=a2.2;rw [e2,Ky] at a3 ⊢;show (dataLt (Gr.aG (k,g)) (Gr.aG (k2,g2))::ltsD _).all id=true;rw [List.all_cons,show id (dataLt (Gr.aG (k,g)) (Gr.aG (k2,g2)))=true from dZ,Bool.true_and];exact a3
theorem Of:∀ g:Gr,tD g.encs<=2+g.parts/\g.encs.length<=g.parts
 | .nil=>⟨by show tD []<=_; rw [tD]; omega,Yc _⟩
 | .cons k g m r=>by
  obtain ⟨h1,h2⟩:=Of g;obtain ⟨h3,h4⟩:=Of r;have e:(Gr.cons k g m r).encs=Gr.aB ((k,g),m)::r.encs:=rfl;have e2:wide (Gr.aB ((k,g),m))<=2+g.parts:=by
   show wide (.tuple [.tuple [.str k,.tuple g.encs],.int m])<=_;simp only [wide,tD,Yk,List.length_nil];omega
  rw [e,tD,Yk];show _<=2+(1+g.parts+r.parts)/\_<=1+g.parts+r.parts;omega
section
variable {K:Qn} {H:Hp} {C:Int}
theorem Wy {g:Gr} (ho:g.Ok C) (h:GA K H v g):Tg K H v g.enc:=by
 cases (h:Dp K H v (.tuple g.encs)) with
 | tup hs ha=>exact .tup hs (Pk g ho ha)
theorem zb7 (h:dE z):z.length<=1000:=by
 have:=h.2.1;rw [NZ] at this;omega
end
theorem SB.kE {aS:List (Key × V)} {ps:List Addr} (h:H p=some (.dK aS)) (hp:p ∈ ps) (o:HO):SB ps H (upd H p o):=by
 refine ⟨fun b u e n=>?_,fun b u e=>?_,fun b v u e=>?_,fun b e=>?_⟩
 ·rw [upd_ne (fun (z:b=p)=>n (by rw [z]; exact hp))]; exact e
 ·rw [upd_ne (fun (z:b=p)=>by subst z; rw [h] at e; cases e)]; exact e
 ·rw [upd_ne (fun (z:b=p)=>by subst z; rw [h] at e; cases e)]; exact e
 ·by_cases q:b=p
  ·subst q; rw [Qt] at e; cases e
  ·rw [upd_ne q] at e; exact e
open TL (tl)
theorem zdm {w:World} {fd:FuncData} {ps:List Str} {sp:Sp} (no:∀ vs H Q E,¬ sp vs H Q E):FnOk P w K mg base (L2.CX P w) k f fd ps sp :=
 ⟨fun vs H Q E h=>absurd h (no vs H Q E),fun A outer s H args us vs Q E _ _ _ _ h=>absurd h (no vs H Q E)⟩
def met (xs:List Str):Nat->List Str
 | 0=>[]
 | i+1=>if (met xs i).any (· == xs.getD i Str.empty)=true then met xs i else met xs i++[xs.getD i Str.empty]
theorem NT (xs:List Str):∀ i,(met xs i).length<=i
 | 0=>Yc _
 | i+1=>by
  have:=NT xs i;unfold met
  split
  ·omega
  ·rw [Yf]; simp; omega
theorem zfq (xs:List Str) (i:Nat) (k:Str):(met xs (i+1)).any (· == k)=((met xs i).any (· == k) || decide (k=xs.getD i Str.empty)):=by
 rw [met];by_cases e:k=xs.getD i Str.empty
 ·subst e
  split
  ·rename_i h; rw [h]; simp
  ·simp
 ·rw [Qz e,Bool.or_false]
  split
  ·rfl
  ·rw [List.any_append];have:([xs.getD i Str.empty].any (· == k))=false:=by
    simp only [List.any_cons,List.any_nil,Bool.or_false,beq_eq_false_iff_ne];exact fun z=>e z.symm
   rw [this,Bool.or_false]
theorem zf7 (xs:List Str) (i:Nat):(met xs (i+1)).length=if (met xs i).any (· == xs.getD i Str.empty)=true then (met xs i).length else (met xs i).length+1:=by
 rw [met]; split <;> simp
abbrev g6 (P:Program) (w:World) (h:Heap) (a:Addr) (L:List Str):Prop:=h.SetOf (PySem.strKind P w) a (fun k=>L.any (· == k)) L.length
theorem g6.keep {w:World} {h':Heap} {L:List Str} (S:g6 P w h a L) (k:∀ o,h.get? a=some o->h'.get? a=some o):g6 P w h' a L:=by
 obtain ⟨o,es,ep,t,ho,r⟩:=S; exact ⟨o,es,ep,t,k o ho,r⟩
section
variable {P:Program} {w:World} {A:Around}
theorem zdd {R:Result->Shared->Prop} {I:Addr} {fp wr:List Addr} {G:Array GenState->Array GenState->Prop} {Pv:Nat->Value->Prop} {St:Nat->Shared->Prop} (W:WalksS P w A.in1 I fp wr G n Pv St) (S:Addr) (Zs:S ∉ fp) (xs:List Str) (hn:n+1 < scanBound)
  (Sa:∀ i v,Pv i v->∃ t,v=.str (xs.getD i Str.empty) t):∀ (k i:Nat) (s:Shared),k+i=n->St i s->g6 P w s.heap S (met xs i) ->
   (∀ s',Moved (S::wr) G s s'->g6 P w s'.heap S (met xs n)->R (.ok (.ret .none)) s')->codeAny (model P w) A (.builtin "set.update.loop" ⟨[.ref S,.ref I],[]⟩) R s:=by
 have out:S ∉ wr:=fun z=>Zs (W.sub _ z);have up:∀ b ∈ wr,b ∈ S::wr:=fun b z=>bR _ z;intro k
 induction k with
 | zero =>
  intro i s e st hS hR;rw [Nat.zero_add] at e; subst e;refine codeAny_builtin F.entry_set_update_loop (by
   rw [Around.under_plainId F.plain_set_update_loop _];show wpAny _ A.in1 (pyNext (.ref I) >>= _) _ _ s;refine Ke (W.done s _ _ st fun s' hm=>?_);show wpAny _ A.in1 (ret Value.none) _ _ s';exact wpAny_pure (hR s' (hm.mono up) (hS.keep fun o e=>hm.heap S o out e)))
 | succ k ih =>
  intro i s e st hS hR;have lt:i < n:=by omega
  refine codeAny_builtin F.entry_set_update_loop (by
   rw [Around.under_plainId F.plain_set_update_loop _];show wpAny _ A.in1 (pyNext (.ref I) >>= _) _ _ s;refine Ke (W.item i s _ _ lt st fun v s' hP QT hm=>?_);obtain ⟨t,rfl⟩:=Sa i v hP;have KQ:g6 P w s'.heap S (met xs i):=hS.keep fun o e=>hm.heap S o out e;show wpAny _ A.in1 (holding [Value.str (xs.getD i Str.empty) t] (setAdd S (.str (xs.getD i Str.empty) t)) >>= _) _ _ s';refine Ke (wpAny_holding ?_);unfold setAdd;refine wpAny_holding (Ke ((PySem.strKind P w).pyHash (k:=xs.getD i Str.empty) (PySem.Froz.is_str _ _) ?_));have room:(met xs i).length+1 < scanBound:=by have:=NT xs i; omega
   refine wpAny_setAddHashed_of (knd:=PySem.strKind P w) (s:={ s' with toks:=s'.toks+1 }) (PySem.Froz.is_str _ _) rfl KQ room fun h' hY O0=>?_;have hSi:g6 P w h' S (met xs (i+1)):=SetOf_congr O0 (fun k'=>(zfq xs i k').symm) (zf7 xs i).symm;refine wpAny_pure ⟨plainId_quiet F.plain_set_update_loop _,ih (i+1) _ (by omega) (W.frame _ s' _ _ QT (Nat.le_succ _) fun b hb o e=>?_) hSi fun s'' Su Te=>?_⟩
   ·rw [hY.2 b fun z:b=S=>Zs (z ▸ hb)]; exact e
   ·refine hR s'' (Moved.trans W.gtrans ((hm.mono up).then_heap (Nat.le_succ _) fun b o hb e=>?_) Su) Te;rw [hY.2 b fun z:b=S=>hb (z ▸ bM)]; exact e)
abbrev eo (led:Bool):Obj:={ cls:=.type "set",dict:=none,data:=.set #[] 0 (.fresh 0 0 led) }
set_option maxHeartbeats 8000000 in
theorem zc1 {E:Value->Shared->Prop} {l:Addr} {cf:Array Value} {xs:List Str} {Q:Value->Shared->Prop} (hh:A.handled=none) (hl:s.heap.IsList l cf) (hi:StrsAre cf.toList xs) (hb:cf.size+1 < scanBound)
  (h:∀ (h':Heap) (tk:Nat),g6 P w h' s.heap.objs.size (met xs cf.size)->(∀ b o,b < s.heap.objs.size->s.heap.get? b=some o->h'.get? b=some o)->Q (.ref s.heap.objs.size) { s with heap:=h',toks:=tk }) :
  wpAny (model P w) A (call (.type "set") [.ref l]) Q E s:=by
 obtain ⟨c,tl',ya1⟩:=PySem.F.called_set.mro;have k1:=PySem.F.called_set.made; have k2:=PySem.F.called_set.sub;refine wpAny_call (codeAny_of_tree (by
  show wpAny _ _ (callAny (.type "set") _) _ _ _;refine wpAny_pure ⟨Code.quiet_builtin _ (by decide +kernel),codeAny_builtin PySem.F.entry_type_call ?_⟩;rw [Around.under_plain (weight_type_call_type "set" [.ref l] []) rfl];have k3:=PySem.F.called_set.notType; have k4:=PySem.F.called_set.canCreate; have k5:=PySem.F.typeCall_set_1 (.ref l)
  repeat (any_goals (first | assumption | wp_step))
  refine codeAny_mono (code_set_new_1 (.ref l) (E:=E) (Q₁:=fun ob z=>∃ led:Bool,ob=.ref s.heap.objs.size/\z={ s with heap:=s.heap.push (eo led) }) fun led=>⟨led,rfl,rfl⟩) fun r z hr=>?_;cases r with
  | error e=>exact hr
  | ok fl =>
  cases fl with
  | ret ob =>
   obtain ⟨led,rfl,rfl⟩:=hr;have at0:(s.heap.push (eo led)).get? s.heap.objs.size=some (eo led):=Heap.get?_push_size _ rfl;have ty0:Shared.TypeIs { s with heap:=s.heap.push (eo led) } (.ref s.heap.objs.size) "set":=⟨_,at0,rfl⟩;have k6:=PySem.F.called_set.init.lookup; have k7:=PySem.F.called_set.init.bind (.ref s.heap.objs.size)
   repeat (any_goals (first | assumption | wp_step))
   refine codeAny_mono (codeAny_call_builtin (R:=wants (fun r s₂=>r=.none/\∃ h' tk,s₂={ s with heap:=h',toks:=tk }/\g6 P w h' s.heap.objs.size (met xs cf.size)/\(∀ b o,b < s.heap.objs.size->s.heap.get? b=some o->h'.get? b=some o)) E) PySem.F.called_set.init.plain PySem.F.entry_set_init (check_set_init_1 ty0 ?_)) fun r₂ s₂ Sf=>?_
   ·obtain ⟨⟨oc,od,oda,osl⟩,Y0,Zg,nl,Zd⟩:=hl;simp only at Zg Zd;subst Zg Zd;have So:(s.heap.push (eo led)).get? l=some ⟨.type "list",od,.seq cf nl,osl⟩:=Heap.get?_push_of_some _ Y0;have k8:=PySem.F.sub_list_set; have k9:=PySem.F.sub_list_frozenset;have k10:(Value.type "list" == Value.type "dict")=false:=by decide
    have YP:(s.heap.push (eo led)).IsList l cf:=⟨_,So,rfl,nl,rfl⟩;unfold Builtin.«set.__init__» noKeywords Builtin.Frozenset.updateFrom;generalize hPI:pyIter=PI
    wp_walk
    subst hPI;refine wpAny_pyIter_list YP (Ke (wpAny_runValue ?_));have YK:l < s.heap.objs.size:=Heap.lt_size Y0;have QQ:(s.heap.push (eo led)).objs.size=s.heap.objs.size+1:=Heap.size_push ..;have lne:l ≠ (s.heap.push (eo led)).objs.size:=Nat.ne_of_lt (QQ ▸ Nat.lt_succ_of_lt YK);have nin:s.heap.objs.size ∉ [(s.heap.push (eo led)).objs.size,l]:=by
     intro z;rcases Qv z with z | z
     ·exact absurd (z.trans QQ) (Nat.ne_of_lt (Nat.lt_succ_self _))
     ·have:s.heap.objs.size=l:=by simpa using z
      exact absurd this.symm (Nat.ne_of_lt YK)
    refine zdd ((Walks.list (show A.in1.in1.in1.handled=none by simp [hh]) _ l lne cf).toS) s.heap.objs.size nin xs hb (fun i v hv=>SS.strs_at hi i v (by rw [Array.getElem?_toList]; exact hv)) cf.size 0 _ rfl ⟨⟨_,Heap.get?_push_size _ rfl,Ja,Ja⟩,YP.push _⟩ ?c1 ?c2
    case c1=>exact SetOf_congr ((setObjOf_fresh (knd:=PySem.strKind P w) led).setOf (Heap.get?_push_of_some _ at0) (by unfold scanBound; omega)) (fun _=>rfl) rfl
    case c2 =>
     rintro ⟨h',g',d',XS,Rr⟩ hm KQ
     have eg:g'=s.gens:=hm.gens; have ed:d'=s.drawn:=hm.drawn; have eo':Rr=s.os:=hm.os;subst eg ed eo';show wpAny _ _ _ _ _ _;refine wpAny_pure (show wpAny _ _ (ret Value.none) _ _ _ from wpAny_pure ⟨rfl,h',XS,Ja,KQ,fun b o KH e=>hm.heap b o (fun z=>?_) (Heap.get?_push_of_some _ (Heap.get?_push_of_some _ e))⟩);rcases Qv z with z | z
     ·exact absurd z (Nat.ne_of_lt KH)
     ·have:b=(s.heap.push (eo led)).objs.size:=by simpa using z
      exact absurd (this.trans QQ) (Nat.ne_of_lt (Nat.lt_succ_of_lt KH))
   ·cases r₂ with
    | error e=>exact Sf
    | ok fl₂ =>
    cases fl₂ with
    | ret r =>
     obtain ⟨rfl,h',tk,rfl,KQ,xJ⟩:=Sf
     repeat (any_goals (first | assumption | wp_step))
     exact h _ _ KQ xJ
    | _=>exact Sf.elim
  | _=>exact hr.elim))
end
theorem PN (xs:List Str):∀ (i:Nat) (k:Str),k ∈ met xs i ↔ ∃ j,j < i/\xs.getD j Str.empty=k
 | 0,k=>by simp [met]
 | i+1,k=>by
  rw [met];have ih:=PN xs i k
  split
  ·rename_i h;rw [ih];refine ⟨fun ⟨j,a,b⟩=>⟨j,by omega,b⟩,fun ⟨j,a,b⟩=>?_⟩;by_cases e:j=i
   ·subst e;obtain ⟨y,hy,he⟩:=List.any_eq_true.mp h;have:=(PN xs j y).mp hy;rw [beq_iff_eq.mp he,b] at this;exact this
   ·exact ⟨j,by omega,b⟩
  ·rw [List.mem_append,ih];refine ⟨fun z=>?_,fun ⟨j,a,b⟩=>?_⟩
   ·rcases z with ⟨j,a,b⟩ | z
    ·exact ⟨j,by omega,b⟩
    ·exact ⟨i,by omega,(Qy z).symm⟩
   ·by_cases e:j=i
    ·subst e; exact .inr (Kv b.symm)
    ·exact .inl ⟨j,by omega,b⟩
theorem Oh (xs:List Str):∀ i,(met xs i).Nodup
 | 0=>List.nodup_nil
 | i+1=>by
  rw [met]
  split
  ·exact Oh xs i
  ·rename_i h;refine List.nodup_append.mpr ⟨Oh xs i,by simp,fun a ha b hb e=>h ?_⟩;rw [Qy hb] at e;exact List.any_eq_true.mpr ⟨a,ha,beq_iff_eq.mpr e⟩
theorem zfm (xs:List Str) (k:Str):k ∈ met xs xs.length ↔ k ∈ xs:=by
 rw [PN];refine ⟨fun ⟨j,a,b⟩=>?_,fun h=>?_⟩
 ·rw [<- b,List.getD_eq_getElem?_getD,Kp a]; exact List.getElem_mem a
 ·obtain ⟨j,a,b⟩:=List.getElem_of_mem h;exact ⟨j,a,by rw [List.getD_eq_getElem?_getD,Kp a]; exact b⟩
theorem WY (xs:List Str):∀ i,i<=xs.length->(met xs i).length=i->met xs i=xs.take i
 | 0,_,_=>by simp [met]
 | i+1,hi,h=>by
  have hl:=NT xs i;rw [met] at h ⊢
  split at h
  ·omega
  ·rename_i hn;rw [if_neg hn];rw [Yf,Yi] at h;rw [WY xs i (by omega) (by omega),Yg,List.getD_eq_getElem?_getD,Kp (by omega)]
   rfl
theorem z8f (xs:List Str):(met xs xs.length).length=xs.length ↔ xs.Nodup:=by
 constructor
 ·intro h;have e:=WY xs xs.length (Yc _) h;rw [Yh] at e;rw [<- e]; exact Oh xs _
 ·intro h;exact ((List.perm_ext_iff_of_nodup (Oh xs _) h).mpr fun k=>zfm xs k).length_eq
section
variable {X:Cx}
def zd6 (K:Qn) (ta:TE):TE:=fun σ H Q=>ta σ H fun x H1=>∃ (l:Addr) (zs:List Str),x=V.ref l/\SqL K H1 l (zs.map V.str)/\zs.length < 1000/\Q (.int (met zs zs.length).length) H1
theorem zb8 {a:Expr} {ta:TE} {p p2 q pos:Pos} (hc:X.calm=true) (B:BI X.mg) (g1:Gl X "len") (g2:Gl X "set") (ha:PE X a ta)
  (na:starEach [a] X.env=(false,eval a X.env)::starEach [] X.env:=by rfl):PE X (.Call (.Name "len" p) [.Call (.Name "set" p2) [a] [] q] [] pos) (zd6 X.K ta):=by
 refine ⟨fun pins s σ H Q I h=>Call_ (ld_blt I g1 B.len PySem.boot_len ?_)⟩;refine PyProof.Rows.callWith_builtin1 (PyProof.Rows.args_cons (Call_ (ld_blt I g2 B.set PyProof.Rows.boot_set ?_)) rfl) rfl rfl;refine PyProof.Rows.callWith_type1 (PyProof.Rows.args_cons (thn (ha.run pins s σ H _ I h) fun v s1 ⟨x,H1,I1,r1,l,zs,ex,hq,h1,q1⟩=>PyProof.Rows.args_nil ?_) na) na rfl;subst ex;cases r1;obtain ⟨cf,rv,pl,hz⟩:=I1.list hq;have hlen:cf.toArray.size=zs.length:=by rw [List.size_toArray,<- rv.length,Ye]
 refine zc1 (xs:=zs) (I1.ok.hd hc) pl.isList (by simpa using rv.strs) (by rw [hlen]; unfold scanBound; omega) fun h' tk hS hk=>PyProof.Rows.args_nil ?_;rw [hlen] at hS;have hm:=NT zs zs.length;obtain ⟨o,es,ep,t,ho,hex,hd,_,_,_,hf,hn⟩:=hS;have J:Inv X pins σ H1 { s1 with heap:=h',toks:=tk }:=I1.kept fun b o e=>hk b o (Heap.lt_size e) e;exact call_len_set ho hex hd hf (by rw [hn]; omega) ⟨.int (met zs zs.length).length,H1,J.tok _,⟨_,by rw [hn]⟩,q1⟩
end
section
variable {X:Cx} {CX:CXT} {k:Nat} {f C:Addr} {fd:FuncData} {ps:List Str} {sp:Sp} {E:L2.St->XK} {x m:Str} {p pos apos:Pos} {e o:Expr} {es:List Expr} {ta:TE} {t:TA}
def HS (C:Addr) (m:Str) (sp:Sp) (E:L2.St->XK) (ta:TE) (t:TA):TE:=fun σ H Q=>ta σ H fun y H1=>∃ a dx fs,y=.ref a/\H1 a=some (.ins C dx fs)/\fs.lookup m=none/\t σ H1 fun vs H2=>sp (y::vs) H2 Q (E σ)
def VC (C:Addr) (sp:Sp) (E:L2.St->XK) (t:TA):TE:=fun σ H Q=>t σ H fun vs H1=>∀ y dx,H1 y=none->H1 dx=none->dx ≠ y ->
 sp (.ref y::vs) (upd (upd H1 dx (.own y)) y (.ins C dx [])) (fun v H2=>v=.non/\Q (.ref y) H2) (E σ)
theorem WV {pl:Sem Bool} (ho:PE X o ta) (c:Cls X.K C) (hm:Meth X.K C m f) (F:FnOk X.prog X.w X.K X.mg X.base CX k f fd ps sp) (hr:Room k X.A) (hb:Binds X.K fd ps []) (hx:∀ σ,PassesAt CX X σ (E σ)) (ha:PA X (e::es) t)
  (jB:starEach (e::es) X.env=(false,eval e X.env)::starEach es X.env:=by rfl) (fy:(backTo pos (starEach es X.env)).any (·.1)=false:=by rfl)
  (ht:eval (.Call (.Attribute o m apos) (e::es) [] pos) X.env=(do
    let ov <- eval o X.env
    standAt apos.atName
    let (g,first) <- holding [ov] (getMethod ov m pl)
    callWith pos g first (backTo pos (starEach (e::es) X.env)) (backToKw pos (keywordEach [] X.env))):=by rfl) :
  PE X (.Call (.Attribute o m apos) (e::es) [] pos) (HS C m sp E ta t):=by
 refine ⟨fun pins s σ H Q I h=>PySem.W.methodCall_KW (pl:=pl) (thn (ho.run pins s σ H _ I h) fun u s1 ⟨y,H1,I1,ry,a,dx,fs,ey,ea,l,q⟩=>?_) ht⟩;subst ey;cases (show u=Value.ref a from ry);exact getmeth_ok I1 ea c hm l (PySem.W.callWith_K (first:=[.ref a]) (h₀:=X.base) I.ok.mod.kin hm.kp
  (thn (ha.run pos pins s1 σ H1 _ I1 q) fun us s2 ⟨vs,H2,I2,r,q2⟩=>⟨I2.kIn,run_fnS (us:=.ref a::us) (vs:=.ref a::vs) F hr hb (hx σ) I2 (.cons rfl r) q2⟩) jB fy)
theorem zc5 {pl:Sem Bool} (ho:PE X o ta) (c:Cls X.K C) (hm:Meth X.K C m f) (F:FnOk X.prog X.w X.K X.mg X.base CX k f fd ps sp) (hr:Room k X.A) (hb:Binds X.K fd ps []) (hx:∀ σ,PassesAt CX X σ (E σ))
  (ht:eval (.Call (.Attribute o m apos) [] [] pos) X.env=(do
    let ov <- eval o X.env
    standAt apos.atName
    let (g,first) <- holding [ov] (getMethod ov m pl)
    callWith pos g first (backTo pos (starEach [] X.env)) (backToKw pos (keywordEach [] X.env))):=by rfl) :
  PE X (.Call (.Attribute o m apos) [] [] pos) (HS C m sp E ta tNil):=by
 refine ⟨fun pins s σ H Q I h=>PySem.W.methodCall_KW (pl:=pl) (thn (ho.run pins s σ H _ I h) fun u s1 ⟨y,H1,I1,ry,a,dx,fs,ey,ea,l,q⟩=>?_) ht⟩;subst ey;cases (show u=Value.ref a from ry);exact getmeth_ok I1 ea c hm l (PySem.W.callWith_K0 (first:=[.ref a]) I1.kIn hm.kp (run_fnS (us:=[.ref a]) (vs:=[.ref a]) F hr hb (hx σ) I1 (.cons rfl .nil) q))
theorem zdj (M:Mk X.K C f) (F:FnOk X.prog X.w X.K X.mg X.base CX k f fd ps sp) (hr:Room (k+1) X.A) (hg:Gl X x) (hm:X.mg x=some (.ref C)) (hb:Binds X.K fd ps []) (hx:∀ σ,PassesAt CX X σ (E σ))
  (ha:PA X (e::es) t) (yS:(x == ("__debug__":Str))=false:=by decide) (he:starEach (e::es) X.env=(false,eval e X.env)::starEach es X.env:=by rfl) (fy:(backTo pos (starEach es X.env)).any (·.1)=false:=by rfl) :
  PE X (.Call (.Name x p) (e::es) [] pos) (VC C sp E t):=by
 refine ⟨fun pins s σ H Q I h=>wpAny_Call_Name_kw (ld_glob I hg hm ?_ yS)⟩;refine PySem.W.callWith_K (h₀:=X.base) I.ok.mod.kin M.kp (thn (ha.run pos pins s σ H _ I h) fun us s1 ⟨vs,H1,I1,r,q⟩=>⟨I1.kIn,?_⟩) he fy;have hq:=q (s1.heap.objs.size+1) s1.heap.objs.size (I1.hok.fresh (Nat.le_succ _)) (I1.hok.fresh (Yc _)) (Nat.ne_of_lt (Nat.lt_succ_self _));have J:=Inv.made (C:=C) I1;have r2:Vals (V.ref (s1.heap.objs.size+1)::vs) (Value.ref (s1.heap.objs.size+1)::us):=.cons rfl r;have hl:(Value.ref (s1.heap.objs.size+1)::us).length=ps.length:=by rw [<- r2.length]; exact F.len _ _ _ _ hq
 have b:=hb _ (Value.ref (s1.heap.objs.size+1)::us) J.kIn (by rw [Kz]; exact hl);rw [Kz] at b;refine wpAny_call (make_map (f:=f) I1.kIn M.makes M.init (beq_iff_eq.mp M.fn) (codeAny_mono (F.run _ X.stack _ _ ⟨Value.ref (s1.heap.objs.size+1)::us,[]⟩ (Value.ref (s1.heap.objs.size+1)::us) _ _ (E σ) (hr.make C us [])
  (J.env0.make C us []) b r2 hq) fun r s' qy=>?_))
 match r,qy with
 | .error er,qy=>exact hx σ pins _ _ er s' J qy
 | .ok (.ret u),qy =>
  obtain ⟨v,H',J3,rv,ev,q3⟩:=J.after qy;subst ev;exact ⟨rv,⟨V.ref (s1.heap.objs.size+1),H',J3,Ja,q3⟩⟩
 | .ok .next,qy=>exact qy.elim
 | .ok .brk,qy=>exact qy.elim
 | .ok .cont,qy=>exact qy.elim
end
structure GotM (P:Program) (w:World) (K:Qn) (mg:Str->Option Value) (base:Heap) (C:Addr) (m:Str) (ps:List Str) (k:Nat) (sp:Sp):Prop where
 ex:∃ (f:Addr) (fd:FuncData),FnOk P w K mg base CX0 k f fd ps sp/\Meth K C m f/\Binds K fd ps []/\Cls K C
structure z2n (P:Program) (w:World) (K:Qn) (mg:Str->Option Value) (base:Heap) (C:Addr) (m:Str) (ps:List Str) (k:Nat) (sp:Sp):Prop where
 ex:∃ (f:Addr) (fd:FuncData),FnOk P w K mg base (L2.CX P w) k f fd ps sp/\Meth K C m f/\Binds K fd ps []/\Cls K C
structure GotI (P:Program) (w:World) (K:Qn) (mg:Str->Option Value) (base:Heap) (x:Str) (C:Addr) (ps:List Str) (k:Nat) (sp:Sp):Prop where
 ex:∃ (f:Addr) (fd:FuncData),FnOk P w K mg base (L2.CX P w) k f fd ps sp/\Mk K C f/\Binds K fd ps []/\mg x=some (.ref C)
section
variable {X:Cx} {C:Addr} {x m:Str} {ps:List Str} {k:Nat} {sp:Sp} {e o:Expr} {es:List Expr} {ta:TE} {t:TA} {p pos apos:Pos} {pl:Sem Bool}
theorem QA (G:GotM X.prog X.w X.K X.mg X.base C m ps k sp) (hr:Room k X.A) (ho:PE X o ta)
  (ht:eval (.Call (.Attribute o m apos) [] [] pos) X.env=(do
    let ov <- eval o X.env
    standAt apos.atName
    let (g,first) <- holding [ov] (getMethod ov m pl)
    callWith pos g first (backTo pos (starEach [] X.env)) (backToKw pos (keywordEach [] X.env))):=by rfl) :
  PE X (.Call (.Attribute o m apos) [] [] pos) (HS C m sp (fun _=>E0) ta tNil):=by
 obtain ⟨f,fd,h1,h2,h3,h4⟩:=G.ex;exact zc5 ho h4 h2 h1 hr h3 (fun σ pins H s e s' I c=>pass0 pins σ H s e s' I c) ht
theorem WR (G:z2n X.prog X.w X.K X.mg X.base C m ps k sp) (hr:Room k X.A) (ho:PE X o ta) (ha:PA X (e::es) t)
  (jB:starEach (e::es) X.env=(false,eval e X.env)::starEach es X.env:=by rfl) (fy:(backTo pos (starEach es X.env)).any (·.1)=false:=by rfl)
  (ht:eval (.Call (.Attribute o m apos) (e::es) [] pos) X.env=(do
    let ov <- eval o X.env
    standAt apos.atName
    let (g,first) <- holding [ov] (getMethod ov m pl)
    callWith pos g first (backTo pos (starEach (e::es) X.env)) (backToKw pos (keywordEach [] X.env))):=by rfl) :
  PE X (.Call (.Attribute o m apos) (e::es) [] pos) (HS C m sp (fun _=>E0) ta t):=by
 obtain ⟨f,fd,h1,h2,h3,h4⟩:=G.ex;exact WV ho h4 h2 h1 hr h3 (fun σ pins H s e s' I c=>passL pins σ H s e s' I c) ha jB fy ht
theorem Wq {W:WX} (G:z2n X.prog X.w X.K X.mg X.base C m ps k sp) (hr:Room k X.A) (tk:Takes X W) (ho:PE X o ta) (ha:PA X (e::es) t)
  (jB:starEach (e::es) X.env=(false,eval e X.env)::starEach es X.env:=by rfl) (fy:(backTo pos (starEach es X.env)).any (·.1)=false:=by rfl)
  (ht:eval (.Call (.Attribute o m apos) (e::es) [] pos) X.env=(do
    let ov <- eval o X.env
    standAt apos.atName
    let (g,first) <- holding [ov] (getMethod ov m pl)
    callWith pos g first (backTo pos (starEach (e::es) X.env)) (backToKw pos (keywordEach [] X.env))):=by rfl) :
  PE X (.Call (.Attribute o m apos) (e::es) [] pos) (HS C m sp (WE W) ta t):=by
 obtain ⟨f,fd,h1,h2,h3,h4⟩:=G.ex;exact WV ho h4 h2 h1 hr h3 (fun σ=>passAt tk σ) ha jB fy ht
theorem zf5 (G:GotI X.prog X.w X.K X.mg X.base x C ps k sp) (hr:Room (k+1) X.A) (hg:Gl X x) (ha:PA X (e::es) t) (yS:(x == ("__debug__":Str))=false:=by decide)
  (he:starEach (e::es) X.env=(false,eval e X.env)::starEach es X.env:=by rfl) (fy:(backTo pos (starEach es X.env)).any (·.1)=false:=by rfl) :
  PE X (.Call (.Name x p) (e::es) [] pos) (VC C sp (fun _=>E0) t):=by
 obtain ⟨f,fd,h1,h2,h3,h4⟩:=G.ex;exact zdj h2 h1 hr hg h4 h3 (fun σ pins H s e s' I c=>passL pins σ H s e s' I c) ha yS he fy
end
def PF (K:Qn) (C:Addr):Sp:=fun vs H Q _=>∃ (a:Addr) (y:V),vs=[.ref a,y]/\OexC K C/\PySem.W.findIn K (.ref C) "kind"=some none/\H a=some (exo a C none)/\∀ dx,H dx=none->dx ≠ a->Q .non (upd (upd H dx (exd dx [("kind",y)])) a (exo a C (some dx)))
structure OwnI (P:Program) (w:World) (K:Qn) (mg:Str->Option Value) (base:Heap) (x:Str) (C:Addr) (k:Nat):Prop where
 gC:mg x=some (.ref C)
 T:OexC K C
 no:PySem.W.findIn K (.ref C) "kind"=some none
 ex:∃ (f:Addr) (fd:FuncData),PySem.W.findIn K (.ref C) "__init__"=some (some (.ref f))/\PySem.W.typeIn K (.ref f)=some (.type "function")/\FnOk P w K mg base CX0 k f fd [a8,"kind"] (PF K C)/\Binds K fd [a8,"kind"] []
def Pj (K:Qn) (C:Addr):Bool:=(match K.lookup C with
 | some ⟨.type "type",_,.cls cd,sl⟩=>(match cd.mro,sl.toList with
  | .ref D::bm,[_,_,_,_,some (.builtin n),_]=>decide (D=C)&&(n == "ValueError.__new__"&&(!cd.hasDel&&(cd.hasDict&&PySem.HandSPX.refsVE bm)))
  | _,_=>false)
 | _=>false)&&(He.eqO (PySem.W.findIn K (.ref C) "__setattr__") (some (some (.builtin "object.__setattr__")))&&(decide (PySem.W.subIn K (.ref C) (.type "BaseException")=some true)&&(decide (PySem.W.typeIn K (.ref C)=some (.type "type"))&&PySem.W.keepIn K (.ref C))))
theorem Wr {C:Addr} (h:Pj K C=true):OexC K C:=by
 obtain ⟨h1,h⟩:=He.ba h;obtain ⟨h2,h⟩:=He.ba h;obtain ⟨h3,h⟩:=He.ba h;obtain ⟨h4,h5⟩:=He.ba h;refine ⟨?_,He.eqO_ok h2,Ks h3,Ks h4,h5⟩
 split at h1
 ·rename_i dd cd sl ho
  split at h1
  ·rename_i D bm k0 k1 k2 k3 n k5 hm hs;obtain ⟨e1,h1⟩:=He.ba h1;obtain ⟨e2,h1⟩:=He.ba h1;obtain ⟨e3,h1⟩:=He.ba h1;obtain ⟨e4,e5⟩:=He.ba h1;have e1:=Ks e1;have e2:=beq_iff_eq.mp e2;obtain ⟨nm,bs,mro,ns,qn,hd,sn,sb,ab,col,del⟩:=cd;simp only at hm e3 e4;subst e1 e2 hm e4;have e3:del=false:=by simpa using e3
   subst e3;obtain ⟨sl⟩:=sl;simp only at hs;subst hs;exact ⟨nm,qn,ns,bs,bm,sn,sb,ab,col,dd,k0,k1,k2,k3,k5,ho,e5⟩
  ·cases h1
 ·cases h1
theorem _root_.L2.PE.wide {X:Cx} {te:TE} (h:PE X e te):PE X e (fun σ H Q=>∃ Q':VK,te σ H Q'/\∀ v H',Q' v H'->Q v H') :=
 ⟨fun pins s σ H Q I ⟨Q',h1,h2⟩=>thn (h.run pins s σ H Q' I h1) fun v s1 ⟨y,H1,I1,r,q⟩=>⟨y,H1,I1,r,h2 _ _ q⟩⟩
section
variable {X:Cx} {C:Addr} {x:Str} {k:Nat} {e:Expr} {te:TE} {p pos:Pos}
def zjj (C:Addr) (te:TE):L2.St->Hp->XK->Prop:=fun σ H Q=>te σ H fun y H1=>∀ d,H1 d=none->Q (.ref C) (some d) (upd H1 d (.xd [("kind",y)]))
theorem WC (O:OwnI X.prog X.w X.K X.mg X.base x C k) (hr:Room (k+1) X.A) (hg:Gl X x) (he:PE X e te) (yS:(x == ("__debug__":Str))=false:=by decide)
  (hs:starEach [e] X.env=(false,eval e X.env)::starEach [] X.env:=by rfl) (fy:(backTo pos (starEach [] X.env)).any (·.1)=false:=by rfl):PMk X (.Call (.Name x p) [e] [] pos) (zjj C te):=by
 obtain ⟨f,fd,h1,h2,h3,h4⟩:=O.ex;have hw:=pmk_oex (p:=p) O.T h1 h2 h3 hr h4 .nil pass0 hg O.gC (pa_cons (hs:=hs) he.wide Qb) yS hs fy;intro pins s σ H Q I h;refine hw pins s σ H Q I ⟨_,h,fun y H1 q=>?_⟩;refine ⟨by simp,fun a ha=>⟨a,y,rfl,O.T,O.no,Qt,fun dx hd ne=>⟨rfl,dx,[("kind",y)],Qt,?_,?_,?_⟩⟩⟩
 ·rw [upd_ne ne,Qt]
 ·rw [upd_ne ne] at hd; exact hd
 ·have e:upd (del (upd (upd (upd H1 a (exo a C none)) dx (exd dx [("kind",y)])) a (exo a C (some dx))) a) dx (.xd [("kind",y)])=upd H1 dx (.xd [("kind",y)]):=by
   funext b
   by_cases h1:b=dx
   ·subst h1; rw [Qt,Qt]
   ·rw [upd_ne h1,upd_ne h1];by_cases h2:b=a
    ·subst h2; rw [del_same,ha]
    ·rw [del_ne h2,upd_ne h2,upd_ne h1,upd_ne h2]
  rw [e];rw [upd_ne ne] at hd;exact q dx hd
end
abbrev Ru:=Gr × Gr
def Ru.enc (r:Ru):PyData:=.tuple [r.1.enc,r.2.enc]
def Ru.within (r:Ru):List (Tr × Int):=r.1.within++r.2.within
structure Kd where
 n:Str
 w:Bool
 rs:List Ru
abbrev Bk:=List Kd
abbrev Bk.names (b:Bk):List Str:=b.map (·.n)
variable {b c:Bk} {ρ:Str->Lad} {r:Ru} {bs:List (Tr × Int)} {aS:List (Key × V)} {t:Tr} {o:Lad} {ls:List Lad}
def Kd.wm (k:Kd):PyData:=.tuple (k.rs.map Ru.enc)
def Bk.get (b:Bk) (n:Str):Option Kd:=b.find? fun k=>decide (k.n=n)
def dV (r:Ru):Prop:=r.1.Ok 1000000001/\r.2.Ok 1000000001/\r.1.parts+r.2.parts<=4
def UI (ns:List Str) (k:Kd):Prop:=dE k.n/\k.rs.length<=4/\∀ r ∈ k.rs,dV r/\∀ p ∈ Ru.within r,p.1.1 ∈ ns
structure Bk.Ok (b:Bk):Prop where
 pos:1<=b.length
 len:b.length<=8
 nd:b.names.Nodup
 kd:∀ k ∈ b,UI b.names k
theorem Ru.aj (r:Ru):noList (Ru.enc r)=true:=by simp [Ru.enc,noList,jw,Gr.aj]
theorem Kd.eH (k:Kd):noList k.wm=true:=by
 unfold Kd.wm noList
 induction k.rs with
 | nil=>rfl
 | cons r l ih=>rw [Ky,jw,Ru.aj,ih]; rfl
theorem Bk.get_some {n:Str} {k:Kd} (h:b.get n=some k):k ∈ b/\k.n=n :=
 ⟨List.mem_of_find?_eq_some h,Ks (List.find?_some (p:=fun k:Kd=>decide (k.n=n)) h)⟩
theorem Bk.get_none {n:Str} (h:b.get n=none):n ∉ b.names:=fun z=>by
 obtain ⟨k,hk,e⟩:=Qx z;have:=List.find?_eq_none.mp h k hk;exact this (Ya e)
theorem Bk.dw {n:Str} (h:n ∈ b.names):∃ k,b.get n=some k:=by
 cases e:b.get n with
 | none=>exact absurd h (Bk.get_none e)
 | some k=>exact ⟨k,Ja⟩
theorem Bk.gQ (nd:b.names.Nodup) {k:Kd} (hk:k ∈ b):b.get k.n=some k:=by
 induction b with
 | nil=>cases hk
 | cons x r ih =>
  have YG:(x.n::Bk.names r).Nodup:=nd;unfold Bk.get;rcases Qv hk with e | e
  ·subst e; rw [List.find?_cons_of_pos (by simp)]
  ·have:¬ x.n=k.n:=fun z=>(List.nodup_cons.mp YG).1 (by rw [z]; exact Ku ⟨k,e,Ja⟩);rw [List.find?_cons_of_neg (by simpa using this)];exact ih (List.nodup_cons.mp YG).2 e
def Bk.i5 (b:Bk) (us:List V):List (Key × V):=List.zipWith (fun (k:Kd) (u:V)=>(Sum.inr k.n,u)) b us
def Bk.lZ (b:Bk):List (Key × V):=b.map fun k=>(Sum.inr k.n,V.bl k.w)
theorem Bk.x7 (b:Bk) (n:Str):valV b.lZ (Sum.inr n)=(b.get n).map fun k=>V.bl k.w:=by
 induction b with
 | nil=>rfl
 | cons x r ih =>
  by_cases e:x.n=n
  ·subst e;rw [show Bk.lZ (x::r)=(Sum.inr x.n,V.bl x.w)::Bk.lZ r from rfl,valV_pos rfl];simp [Bk.get]
  ·rw [show Bk.lZ (x::r)=(Sum.inr x.n,V.bl x.w)::Bk.lZ r from rfl,valV_neg (by simpa using e),ih];simp [Bk.get,e]
theorem Bk.oE {K:Qn} {H:Hp} (n:Str):∀ {b:Bk} {us:List V},Bears K H Kd.wm us b->∀ {k:Kd},b.get n=some k->∃ u,valV (b.i5 us) (Sum.inr n)=some u/\Dp K H u k.wm
 | [],_,_,k,h=>by cases h
 | x::r,_,.cons (v:=u) (vs:=us) h0 h1,k,h=>by
  have e0:Bk.i5 (x::r) (u::us)=(Sum.inr x.n,u)::Bk.i5 r us:=rfl;by_cases e:x.n=n
  ·subst e;have:x=k:=by simpa [Bk.get] using h
   subst this;exact ⟨u,by rw [e0,valV_pos rfl],h0⟩
  ·have h':Bk.get r n=some k:=by simpa [Bk.get,e] using h
   obtain ⟨v,a,c⟩:=Bk.oE n h1 h';exact ⟨v,by rw [e0,valV_neg (by simpa using e)]; exact a,c⟩
abbrev Um (d1 d2:Addr):List (Str × V):=[("spread_by_name",.ref d1),("rows_by_name",.ref d2)]
def hJ (K:Qn) (C:Addr) (H:Hp) (v:V) (b:Bk):Prop:=∃ (a dx d1 d2:Addr) (us:List V),v=.ref a/\H a=some (.ins C dx (Um d1 d2))/\H d1=some (.dK b.lZ)/\H d2=some (.dK (b.i5 us))/\Bears K H Kd.wm us b
def xq (H:Hp) (ps:List Addr):Prop:=∀ p ∈ ps,H p=none\/∃ xs,H p=some (.lst xs)
theorem xq.nil:xq H []:=fun _ h=>nomatch h
theorem xq.yt {ps:List Addr} (h:xq H ps) {a:Addr} {o:HO} (e:H a=some o) (n:∀ xs,o ≠ .lst xs):a ∉ ps:=fun z=>by
 rcases h a z with q | ⟨xs,q⟩
 ·rw [e] at q; cases q
 ·rw [e] at q; exact n xs (Yd q)
section
variable {K:Qn} {C:Addr} {H H':Hp} {v:V} {b:Bk} {ps:List Addr}
theorem hJ.sb (h:hJ K C H v b) (e:SB ps H H') (hp:xq H ps):hJ K C H' v b:=by
 obtain ⟨a,dx,d1,d2,us,rfl,h1,h2,h3,h4⟩:=h;exact ⟨a,dx,d1,d2,us,rfl,e.keep _ _ h1 (hp.yt h1 fun _ z=>nomatch z),e.keep _ _ h2 (hp.yt h2 fun _ z=>nomatch z),e.keep _ _ h3 (hp.yt h3 fun _ z=>nomatch z),h4.sb e Kd.eH⟩
theorem hJ.ef (h:hJ K C H v b) (e:SB [] H H'):hJ K C H' v b:=h.sb e xq.nil
theorem hJ.at (h:hJ K C H v b):∃ a dx d1 d2,v=.ref a/\H a=some (.ins C dx (Um d1 d2)):=by
 obtain ⟨a,dx,d1,d2,us,e,h1,_⟩:=h;exact ⟨a,dx,d1,d2,e,h1⟩
end
structure ClsF (K:Qn) (C:Addr) (fs:List Str):Prop where
 c:Cls K C
 no:∀ f ∈ fs,NoAttr K C f
def Il (K:Qn) (C:Addr):Sp:=fun vs H Q _=>∃ (v:V) (b:Bk),vs=[v]/\hJ K C H v b/\b.length<=1000/\∀ (l:Addr) (H':Hp),SB [] H H'->H l=none->H' l=some (.lst (b.names.map V.str))->Q (.ref l) H'
def Fw (N:Addr) (b:Bk) (n:Str) (H:Hp) (E:XK) (q:Kd->Prop):Prop:=(∀ k,b.get n=some k->q k)/\(b.get n=none->∀ (d:Addr) (H':Hp),SB [] H H'->H d=none->H' d=some (.xd [("kind",.str n)])->E (.ref N) (some d) H')
def Oa (K:Qn) (C N:Addr):Sp:=fun vs H Q E=>∃ (v:V) (b:Bk) (n:Str),vs=[v,.str n]/\hJ K C H v b/\b.length<=1000/\Fw N b n H E fun _=>∀ H',SB [] H H'->Q .non H'
def Oo (K:Qn) (C N:Addr):Sp:=fun vs H Q E=>∃ (v:V) (b:Bk) (n:Str),vs=[v,.str n]/\hJ K C H v b/\b.length<=1000/\Fw N b n H E fun k=>∀ H',SB [] H H'->Q (.bl k.w) H'
def N9 (K:Qn) (C N:Addr):Sp:=fun vs H Q E=>∃ (v:V) (b:Bk) (n:Str),vs=[v,.str n]/\hJ K C H v b/\b.length<=1000/\(∀ k ∈ b,k.rs.length<=1000) /\
 Fw N b n H E fun k=>∀ (l:Addr) (us:List V) (H':Hp),SB [] H H'->H l=none->H' l=some (.lst us)->Bears K H' Ru.enc us k.rs->Q (.ref l) H'
inductive KT where
 | other
 | three (d:PyData) (w:Option Bool) (rs:Option (List PyData))
def Kd.kt (k:Kd):KT:=.three (.str k.n) (some k.w) (some (k.rs.map Ru.enc))
def Gv (K:Qn) (H:Hp) (v:V):KT->Prop
 | .other=>∃ d,Tg K H v d/\∀ ds,d=.tuple ds->ds.length ≠ 3
 | .three d w rs=>∃ (t:Addr) (x y z:V),v=.ref t/\SqT K H t [x,y,z]/\Tg K H x d/\(match w with
   | some b=>y=.bl b
   | none=>∃ n,TyX K H y (.type n)/\kitB n "bool"=some false)/\(match rs with
   | some ds=>∃ (l:Addr) (zs:List V),z=.ref l/\H l=some (.lst zs)/\TgAll K H zs ds
   | none=>∃ n,TyX K H z (.type n)/\kitB n "list"=some false)
def EK (d:PyData):Prop:=∃ r:Ru,d=Ru.enc r/\dV r
def Ph (d:PyData):Prop:=d.depth<=60/\wide d<=1000/\∀ a b,d=.tuple [a,b]->∀ g:Gr,a=g.enc\/b=g.enc->g.deep<=18/\g.parts<=450
def NL:KT->Prop
 | .other=>True
 | .three d w rs=>∀ ds,rs=some ds->ds.length<=1000/\∀ x ∈ ds,Ph x
def zD (t:KT):Prop:=∃ k:Kd,t=k.kt/\dE k.n/\k.rs.length<=4/\∀ r ∈ k.rs,dV r
def EN (ts:List KT):Prop:=∃ b:Bk,ts=b.map Kd.kt/\Bk.Ok b
inductive KTAll (K:Qn) (H:Hp):List V->List KT->Prop
 | nil:KTAll K H [] []
 | cons {v:V} {t:KT} {vs:List V} {ts:List KT}:Gv K H v t->KTAll K H vs ts->KTAll K H (v::vs) (t::ts)
def P2 (K:Qn):Sp:=fun vs H Q _=>∃ (v:V) (d:PyData),vs=[v]/\Tg K H v d/\Ph d/\∀ (b:Bool) (H':Hp),SB [] H H'->(b=true ↔ EK d)->Q (.bl b) H'
def WU (K:Qn):Sp:=fun vs H Q _=>∃ (v:V) (t:KT),vs=[v]/\Gv K H v t/\NL t/\∀ (b:Bool) (H':Hp),SB [] H H'->(b=true ↔ zD t)->Q (.bl b) H'
def QI (K:Qn):Sp:=fun vs H Q _=>∃ (v:V) (l:Addr) (r:Ru) (ns:List Str),vs=[v,.ref l]/\Dp K H v (Ru.enc r)/\dV r/\SqL K H l (ns.map V.str)/\ns.length<=1000/\∀ H',SB [] H H'->Q (.bl (decide (∀ p ∈ Ru.within r,p.1.1 ∈ ns))) H'
def Xy (K:Qn):Sp:=fun vs H Q _=>∃ (l:Addr) (xs:List V) (ts:List KT),vs=[.ref l]/\SqL K H l xs/\KTAll K H xs ts/\(∀ t ∈ ts,NL t)/\ts.length<=1000/\∀ (b:Bool) (H':Hp),SB [] H H'->(b=true ↔ EN ts)->Q (.bl b) H'
def NY (K:Qn) (C B:Addr):Sp:=fun vs H Q E=>∃ (x dx l:Addr) (xs:List V) (ts:List KT),vs=[.ref x,.ref l]/\H x=some (.ins C dx [])/\H dx=some (.own x)/\H l=some (.lst xs)/\KTAll K H xs ts/\(∀ t ∈ ts,NL t)/\ts.length<=1000 /\
 (∀ b:Bk,ts=b.map Kd.kt->b.Ok->∀ H',SB [x] H H'->hJ K C H' (.ref x) b->Q .non H')/\(¬ EN ts->∀ H',SB [] H H'->E (.ref B) none H')
theorem FH (n:Str) (zs:List Str):inV (.str n) (zs.map V.str)=decide (n ∈ zs):=by
 induction zs with
 | nil=>rfl
 | cons z r ih =>
  show ((z == n) || inV (.str n) (r.map V.str))=_;rw [ih];by_cases e:z=n
  ·subst e; simp
  ·have e':¬ n=z:=fun y=>e y.symm;rw [show (z == n)=false from beq_eq_false_iff_ne.mpr e,Bool.false_or];by_cases h:n ∈ r <;> simp [h,e']
theorem FQ (zs:List Str):(zs.map V.str).all flatV=true:=by simp [flatV]
theorem iN {n:Str} (h:H d=some (.dK aS)) (e:valV aS (Sum.inr n)=some v):DGet H d (.str n) (some v):=.inl ⟨aS,Sum.inr n,.inl h,rfl,e.symm⟩
theorem Bk.uJ (b:Bk) (n:Str):decide (n ∈ b.names)=(b.get n).isSome:=by
 cases e:b.get n with
 | none=>simpa using Bk.get_none e
 | some k=>simpa using Ku ⟨k,(Bk.get_some e).1,(Bk.get_some e).2⟩
section
variable {J:It} {n:Nat} {G:Hp->Prop} {Y:Nat->Hp->V->Hp->Prop}
theorem oo (w:Walk J n G Y) {g:TG} {tt:TT} {te:TE} {vs:List Nat} {σ:L2.St} {H:Hp} {D:Addr} {Qd:Hp->Prop} (hD:H D=none) (hn:n < sizeLine) (R:Nat->List V->Hp->Prop) (h0:R 0 [] H) (hG:∀ H2,SB [] H H2->G H2)
  (st:∀ i us H2 H3,SB [D] H2 H3->R i us H2->R i us H3)
  (turn:∀ (Pv:Hp->Prop) i x H2 H' us,i < n->SB [] H H2->Y i H2 x H'->R i us H2->us.length<=i->(∀ y H5,SB [] H2 H5->R (i+1) (us++[y]) H5->∃ acc,H5 D=some (.lst acc)/\acc.length < sizeLine/\Pv (upd H5 D (.lst (acc++[y])))) ->
   (∀ H4,SB [] H2 H4->R (i+1) us H4->Pv H4)->g x (wipe σ vs) H' fun σ2 H3=>wipe σ2 vs=wipe σ vs/\tt σ2 H3 fun b H4 =>
    if b=true then te σ2 H4 fun y H5=>∃ acc,H5 D=some (.lst acc)/\acc.length < sizeLine/\Pv (upd H5 D (.lst (acc++[y]))) else Pv H4)
  (done:∀ us H2,SB [] H H2->H2 D=some (.lst us)->R n us H2->us.length<=n->Qd H2) :
  ∃ W:Nat->Nat->Hp->Prop,(∃ m,W 0 m (upd H D (.lst [])))/\∀ i m H,W i m H ->
   (J.stop i H/\Qd H)\/(J.go i H/\∃ Nx:Hp->Prop,(∀ H',Nx H'->∃ m',m' < m/\W (i+1) m' H')/\∀ x H',J.yld i H x H'->g x (wipe σ vs) H' fun σ2 H2=>wipe σ2 vs=wipe σ vs/\tt σ2 H2 fun b H3 =>
    if b=true then te σ2 H3 fun y H4=>∃ acc,H4 D=some (.lst acc)/\acc.length < sizeLine/\Nx (upd H4 D (.lst (acc++[y]))) else Nx H3):=by
 refine lc_it w (fun i H2=>SB [D] H H2/\∃ us,H2 D=some (.lst us)/\R i us H2/\us.length<=i) ⟨SB.new hD _,[],Qt,st _ _ _ _ (SB.new hD _) h0,Yc _⟩ (fun i H2 _ h=>hG H2 (h.1.drop hD)) (fun i x H2 H' hi h y=>?_) (fun H2 h=>?_)
 ·obtain ⟨s2,us,aV,hR,hl⟩:=h;refine turn _ i x H2 H' us hi (s2.drop hD) y hR hl (fun y H5 s5 r5=>?_) (fun H4 s4 r4=>⟨s2.trans s4.nil,us,s4.keep _ _ aV aP,r4,by omega⟩);have eQ:=s5.keep _ _ aV aP;refine ⟨us,eQ,by omega,(s2.trans s5.nil).trans (SB.set eQ (by simp) _),_,Qt,st _ _ _ _ (SB.set eQ (by simp) _) r5,?_⟩;rw [Yf,Yi]; omega
 ·obtain ⟨s2,us,aV,hR,hl⟩:=h;exact done us H2 (s2.drop hD) aV hR hl
end
theorem Xd:∀ {g:Gr},jF g.enc=true->(∀ p ∈ g.within,p.2 < C)->g.Ok C:=by
 have key:∀ (g:Gr),(∀ p ∈ g.within,p.2 < C)->j1 g.encs=true->(HY (g.encs.map om)=true->g.Ok C):=by
  intro g
  induction g with
  | nil=>intro _ _ _; trivial
  | cons k g m r ihg ihr =>
   intro hb DS OQ;have yU:∀ p ∈ g.within,p.2 < C:=fun p hp=>hb p (bR _ (jA _ hp));have bS:∀ p ∈ r.within,p.2 < C:=fun p hp=>hb p (bR _ (kP _ hp));have e:(Gr.cons k g m r).encs=Gr.aB ((k,g),m)::r.encs:=rfl;rw [e,j1,Bool.and_eq_true] at DS;rw [e,Ky] at OQ;have hp:jE (.tuple [.tuple [.str k,.tuple g.encs],.int m])=true:=DS.1;rw [jE,oj,Bool.and_eq_true,lT,rD,Bool.and_eq_true,tL,Bool.and_eq_true,jF,Bool.and_eq_true,sW,Bool.and_eq_true] at hp;obtain ⟨⟨hn,⟨hgp,hgr⟩,_⟩,hmm,_⟩:=hp;have JH:dE k:=by
    obtain ⟨z,ez,hz⟩:=QF hn;cases ez; exact hz
   have Sh:HY (r.encs.map om)=true:=by
    cases hre:r.encs with
    | nil=>rfl
    | cons d ds =>
     rw [hre,Ky] at OQ;have:(dataLt (om (Gr.aB ((k,g),m))) (om d)::ltsD (om d::ds.map om)).all id=true:=OQ;rw [List.all_cons,Bool.and_eq_true] at this;rw [Ky]; exact this.2
   have YW:=ihr bS DS.2 Sh;refine ⟨JH,ihg yU hgp hgr,Ks hmm,hb _ (bM ..),YW,fun p YY=>?_⟩;cases r with
   | nil=>cases YY
   | cons k2 g2 m2 r2 =>
    have ZI:dataLt (Gr.aG (k,g)) (Gr.aG (k2,g2))=true:=by
     have:(dataLt (Gr.aG (k,g)) (Gr.aG (k2,g2))::ltsD (Gr.aG (k2,g2)::r2.encs.map om)).all id=true:=OQ;rw [List.all_cons,Bool.and_eq_true] at this;exact this.1
    rcases Qv YY with h | h
    ·subst h; exact ZI
    ·exact N8 ZI (YW.2.2.2.2.2 p h)
 intro g hg hb;rw [Gr.enc,jF,Bool.and_eq_true] at hg;exact key g hb hg.1 hg.2
theorem Ol {C:Int}:∀ {g:Gr},g.Ok C->∀ p ∈ g.within,dE p.1.1/\p.1.2.Ok C/\1<=p.2/\p.2 < C
 | .nil,_,p,h=>by cases h
 | .cons k g m r,⟨h0,h1,h2,h3,h4,_⟩,p,h=>by
  rcases Qv h with h | h
  ·subst h; exact ⟨h0,h1,h2,h3⟩
  ·rcases Qw h with h | h
   ·exact Ol h1 p h
   ·exact Ol h4 p h
theorem Gr.fT {g h:Gr} (e:g.enc=h.enc):g=h:=by
 have:=Gr.bc g h;rw [e,Gr.bc h h,Ya rfl] at this;exact Ks this.symm
theorem zf8 {g h:Gr} (hg:jF g.enc=true) (hh:jF h.enc=true):EK (.tuple [g.enc,h.enc]) ↔ g.parts+h.parts<=4/\∀ p ∈ g.within++h.within,p.2<=1000000000:=by
 constructor
 ·rintro ⟨r,e,h1,h2,h3⟩
  have e':PyData.tuple [g.enc,h.enc]=.tuple [r.1.enc,r.2.enc]:=e
  injection e' with e'
  injection e' with a e'
  injection e' with b _
  rw [Gr.fT a,Gr.fT b];refine ⟨h3,fun p hp=>?_⟩;rcases Qw hp with hp | hp
  ·have:=(Ol h1 p hp).2.2.2; omega
  ·have:=(Ol h2 p hp).2.2.2; omega
 ·rintro ⟨h1,h2⟩
  exact ⟨(g,h),Ja,Xd hg fun p hp=>by have:=h2 p (jA _ hp); omega,Xd hh fun p hp=>by have:=h2 p (kP _ hp); omega,h1⟩
theorem V6 {d:PyData} (h:EK d):∃ g k:Gr,d=.tuple [g.enc,k.enc]/\jF g.enc=true/\jF k.enc=true:=by
 obtain ⟨r,e,h1,h2,_⟩:=h;exact ⟨r.1,r.2,e,Oj h1,Oj h2⟩
theorem pJ:∀ g:Gr,g.deep<=g.parts
 | .nil=>Yc _
 | .cons k g m r=>by
  have h1:=pJ g;have h2:=pJ r;show max (1+g.deep) r.deep<=1+g.parts+r.parts;omega
theorem V9:∀ {ds:List PyData},(∀ x ∈ ds,EK x)->∃ rs:List Ru,ds=rs.map Ru.enc/\∀ r ∈ rs,dV r
 | [],_=>⟨[],rfl,fun _ h=>nomatch h⟩
 | d::ds,h=>by
  obtain ⟨r,e,hr⟩:=h d (bM ..);obtain ⟨rs,e2,DP⟩:=V9 fun x hx=>h x (bR _ hx);refine ⟨r::rs,by rw [e,e2]; rfl,fun x hx=>?_⟩;rcases Qv hx with hx | hx
  ·rw [hx]; exact hr
  ·exact DP x hx
theorem Vv (h:SqL K H a xs):TyX K H (.ref a) (.type "list"):=by
 rcases h with (h | ⟨o,h⟩) | ⟨o,cf,n,h,c,_⟩
 ·exact .base (.lst h)
 ·exact .base (.frz h)
 ·exact .kList h c
section
variable {K:Qn} {H H':Hp}
theorem Vx (e:SB [] H H'):∀ {t:KT} {v:V},Gv K H v t->Gv K H' v t
 | .other,v,⟨d,h1,h2⟩=>⟨d,zR e h1,h2⟩
 | .three d w rs,v,⟨t,x,y,z,e0,h1,h2,h3,h4⟩=>by
  refine ⟨t,x,y,z,e0,e.aL h1,zR e h2,?_,?_⟩
  ·cases w with
   | some b=>exact h3
   | none =>
    obtain ⟨n,a,b⟩:=h3;exact ⟨n,CP e (fun _ _=>aP) a,b⟩
  ·cases rs with
   | some ds =>
    obtain ⟨l,zs,e1,h5,h6⟩:=h4;exact ⟨l,zs,e1,e.keep _ _ h5 aP,P8 e h6⟩
   | none =>
    obtain ⟨n,a,b⟩:=h4;exact ⟨n,CP e (fun _ _=>aP) a,b⟩
theorem KTAll.sb (e:SB [] H H'):∀ {vs:List V} {ts:List KT},KTAll K H vs ts->KTAll K H' vs ts
 | _,_,.nil=>.nil
 | _,_,.cons h t=>.cons (Vx e h) (KTAll.sb e t)
theorem KTAll.length:∀ {vs:List V} {ts:List KT},KTAll K H vs ts->vs.length=ts.length
 | _,_,.nil=>rfl
 | _,_,.cons h t=>by rw [Yk,Yk,KTAll.length t]
theorem KTAll.get:∀ {vs:List V} {ts:List KT} {i:Nat} {v:V},KTAll K H vs ts->vs[i]?=some v->∃ t,ts[i]?=some t/\Gv K H v t
 | _,_,i,v,.nil,h=>by simp at h
 | _,_,0,v,.cons h t,e=>by simp at e; subst e; exact ⟨_,Ja,h⟩
 | _,_,i+1,v,.cons h t,e=>by
  simp at e;obtain ⟨t',e',h'⟩:=KTAll.get (i:=i) t e;exact ⟨t',by simpa using e',h'⟩
theorem VF:∀ {ts:List KT},(∀ t ∈ ts,zD t)->∃ b:Bk,ts=b.map Kd.kt/\∀ k ∈ b,dE k.n/\k.rs.length<=4/\∀ r ∈ k.rs,dV r
 | [],_=>⟨[],rfl,fun _ h=>nomatch h⟩
 | t::ts,h=>by
  obtain ⟨k,e,hk⟩:=h t (bM ..);obtain ⟨b,e2,hb⟩:=VF fun x hx=>h x (bR _ hx);refine ⟨k::b,by rw [e,e2]; rfl,fun x hx=>?_⟩;rcases Qv hx with hx | hx
  ·rw [hx]; exact hk
  ·exact hb x hx
theorem zgl {k j:Kd} (e:k.kt=j.kt):k=j:=by
 obtain ⟨n,w,rs⟩:=k;obtain ⟨n2,w2,oC⟩:=j
 injection e with e1 e2 e3
 injection e1 with e1
 injection e2 with e2
 injection e3 with e3
 have e3:rs.map Ru.enc=oC.map Ru.enc:=e3;have e1:n=n2:=e1;have e2:w=w2:=e2;subst e1 e2;have:rs=oC:=by
  refine (List.map_inj_right ?_).mp e3;intro x y h;have h':PyData.tuple [x.1.enc,x.2.enc]=.tuple [y.1.enc,y.2.enc]:=h
  injection h' with h'
  injection h' with a h'
  injection h' with b _
  exact Prod.ext (Gr.fT a) (Gr.fT b)
 rw [this]
theorem PV (e:b.map Kd.kt=c.map Kd.kt):b=c:=(List.map_inj_right (fun _ _=>zgl)).mp e
theorem XM:∀ {rs:List Ru} {zs:List V},TgAll K H zs (rs.map Ru.enc)->Bears K H Ru.enc zs rs
 | [],_,.nil=>.nil
 | r::rs,_,.cons h t=>by
  refine .cons ?_ (XM t);cases (h:Tg K H _ (.tuple [r.1.enc,r.2.enc])) with
  | tup hs ha =>
   cases ha with
   | cons h1 ha =>
   cases ha with
   | cons h2 ha =>
   cases ha;cases h1 with
   | tup a1 b1 =>
   cases h2 with
   | tup a2 b2=>exact .tup hs (.cons (.tup a1 (CJ r.1 b1)) (.cons (.tup a2 (CJ r.2 b2)) .nil))
def Gq (K:Qn) (H:Hp) (bad:List Addr) (v:V) (k:Kd):Prop:=∃ (t l:Addr) (zs:List V),v=.ref t/\SqT K H t [.str k.n,.bl k.w,.ref l]/\H l=some (.lst zs)/\Bears K H Ru.enc zs k.rs/\l ∉ bad
theorem zi8 {k:Kd} (h:Gv K H v k.kt):Gq K H [] v k:=by
 obtain ⟨t,x,y,z,e0,h1,h2,h3,l,zs,rfl,h5,h6⟩:=h;have h3:y=.bl k.w:=h3;subst h3;cases h2;exact ⟨t,l,zs,e0,h1,h5,XM h6,aP⟩
def d6 (H:Hp) (bad ps:List Addr):Prop:=∀ p ∈ ps,p ∈ bad\/∀ xs,H p ≠ some (.lst xs)
theorem d6.nil:d6 H bad []:=fun _ z=>nomatch z
theorem d6.self:d6 H bad bad:=fun _ z=>.inl z
theorem Gq.sb {k:Kd} {v:V} {ps bad:List Addr} (h:Gq K H bad v k) (e:SB ps H H') (n:d6 H bad ps):Gq K H' bad v k:=by
 obtain ⟨t,l,zs,e0,h1,h2,h3,h4⟩:=h;exact ⟨t,l,zs,e0,e.aL h1,e.keep _ _ h2 fun z=>(n _ z).elim h4 fun y=>y _ h2,h3.sb e Ru.aj,h4⟩
inductive KdAll (K:Qn) (H:Hp) (bad:List Addr):List V->Bk->Prop
 | nil:KdAll K H bad [] []
 | cons {v:V} {k:Kd} {vs:List V} {b:Bk}:Gq K H bad v k->KdAll K H bad vs b->KdAll K H bad (v::vs) (k::b)
theorem KdAll.sb {ps bad:List Addr} (e:SB ps H H') (n:d6 H bad ps):∀ {vs:List V} {b:Bk},KdAll K H bad vs b->KdAll K H' bad vs b
 | _,_,.nil=>.nil
 | _,_,.cons h t=>.cons (h.sb e n) (KdAll.sb e n t)
theorem KdAll.less {bad bad':List Addr} (hb:∀ x ∈ bad',x ∈ bad):∀ {vs:List V} {b:Bk},KdAll K H bad vs b->KdAll K H bad' vs b
 | _,_,.nil=>.nil
 | _,_,.cons ⟨t,l,zs,h1,h2,h3,h4,h5⟩ r=>.cons ⟨t,l,zs,h1,h2,h3,h4,fun z=>h5 (hb l z)⟩ (KdAll.less hb r)
theorem KdAll.append {bad:List Addr}:∀ {xs ys:List V} {bs cs:Bk},KdAll K H bad xs bs->KdAll K H bad ys cs->KdAll K H bad (xs++ys) (bs++cs)
 | _,_,_,_,.nil,h=>h
 | _,_,_,_,.cons a b,h=>.cons a (KdAll.append b h)
theorem KdAll.length {bad:List Addr}:∀ {vs:List V} {ts:Bk},KdAll K H bad vs ts->vs.length=ts.length
 | _,_,.nil=>rfl
 | _,_,.cons h t=>by rw [Yk,Yk,KdAll.length t]
theorem KdAll.get {bad:List Addr}:∀ {vs:List V} {ts:Bk} {i:Nat} {v:V},KdAll K H bad vs ts->vs[i]?=some v->∃ t,ts[i]?=some t/\Gq K H bad v t
 | _,_,i,v,.nil,h=>by simp at h
 | _,_,0,v,.cons h t,e=>by simp at e; subst e; exact ⟨_,Ja,h⟩
 | _,_,i+1,v,.cons h t,e=>by
  simp at e;obtain ⟨t',e',h'⟩:=KdAll.get (i:=i) t e;exact ⟨t',by simpa using e',h'⟩
theorem KTAll.kd:∀ {b:Bk} {vs:List V},KTAll K H vs (b.map Kd.kt)->KdAll K H [] vs b
 | [],_,.nil=>.nil
 | k::b,_,.cons h t=>.cons (zi8 h) (KTAll.kd t)
theorem XD {zs:List V}:∀ {rs:List Ru} {zs:List V},(∀ r ∈ rs,dV r)->Bears K H Ru.enc zs rs->TgAll K H zs (rs.map Ru.enc)
 | [],_,_,.nil=>.nil
 | r::rs,_,ok,.cons h t=>by
  refine .cons ?_ (XD (zs:=zs) (fun x hx=>ok x (bR _ hx)) t);obtain ⟨o1,o2,_⟩:=ok r (bM ..);cases (h:Dp K H _ (.tuple [r.1.enc,r.2.enc])) with
  | tup hs ha =>
   cases ha with
   | cons h1 ha =>
   cases ha with
   | cons h2 ha =>
   cases ha;exact .tup hs (.cons (Wy o1 h1) (.cons (Wy o2 h2) .nil))
theorem KdAll.kt {bad:List Addr}:∀ {b:Bk} {vs:List V},(∀ k ∈ b,dE k.n/\∀ r ∈ k.rs,dV r)->KdAll K H bad vs b->KTAll K H vs (b.map Kd.kt)
 | [],_,_,.nil=>.nil
 | k::b,_,ok,.cons h t=>by
  refine .cons ?_ (KdAll.kt (fun x hx=>ok x (bR _ hx)) t);obtain ⟨t,l,zs,e0,h1,h2,h3,_⟩:=h;obtain ⟨o1,o2⟩:=ok k (bM ..);exact ⟨t,_,_,_,e0,h1,.str _ (zb7 o1),Ja,l,zs,Ja,h2,XD (zs:=zs) o2 h3⟩
theorem zdg (h:dV r):Ph (Ru.enc r):=by
 obtain ⟨h1,h2,h3⟩:=h;have d1:=pJ r.1;have d2:=pJ r.2;have e1:=r.1.cq;have e2:=r.2.cq;obtain ⟨w1,w2⟩:=Of r.1;obtain ⟨w3,w4⟩:=Of r.2;refine ⟨?_,?_,fun a b e g hg=>?_⟩
 ·show PyData.depth (.tuple [.tuple r.1.encs,.tuple r.2.encs])<=60;simp only [PyData.depth,PyData.depthAll]; omega
 ·show wide (.tuple [.tuple r.1.encs,.tuple r.2.encs])<=1000;simp only [wide,tD,Yk,List.length_nil]; omega
 ·have e':PyData.tuple [r.1.enc,r.2.enc]=.tuple [a,b]:=e
  injection e' with e'
  injection e' with ea e'
  injection e' with eb _
  rcases hg with hg | hg
  ·rw [<- ea] at hg; rw [<- Gr.fT hg]; omega
  ·rw [<- eb] at hg; rw [<- Gr.fT hg]; omega
theorem zdh {k:Kd} (h:k.rs.length<=4/\∀ r ∈ k.rs,dV r):NL k.kt:=by
 intro ds e;have e:some (k.rs.map Ru.enc)=some ds:=e
 injection e with e
 subst e;refine ⟨by rw [Ye]; omega,fun x hx=>?_⟩;obtain ⟨r,hr,rfl⟩:=Qx hx;exact zdg (h.2 r hr)
end
section
variable {J:It} {n:Nat} {G:Hp->Prop} {Y:Nat->Hp->V->Hp->Prop}
theorem Vz (w:Walk J n G Y) {g:TG} {tt:TT} {tk tv:TE} {vs:List Nat} {σ:L2.St} {H:Hp} {D:Addr} {Qd:Hp->Prop} (hD:H D=none) (hn:n < sizeLine) (R:Nat->List (Key × V)->Hp->Prop) (h0:R 0 [] H) (hG:∀ H2,SB [] H H2->G H2)
  (st:∀ i us H2 H3,SB [D] H2 H3->R i us H2->R i us H3)
  (turn:∀ (Pv:Hp->Prop) i x H2 H' aS,i < n->SB [] H H2->Y i H2 x H'->R i aS H2->aS.length<=i->(∀ k z H5,SB [] H2 H5->R (i+1) (putK aS k z) H5->∃ aS k',kV k=kV k'/\H5 D=some (.dK aS)/\aS.length < sizeLine/\Pv (upd H5 D (.dK (putK aS k' z)))) ->
   (∀ H4,SB [] H2 H4->R (i+1) aS H4->Pv H4)->g x (wipe σ vs) H' fun σ2 H3=>wipe σ2 vs=wipe σ vs/\tt σ2 H3 fun b H4 =>
    if b=true then tk σ2 H4 fun y H5=>tv σ2 H5 fun z H6=>∃ aS k,y=kV k/\H6 D=some (.dK aS)/\aS.length < sizeLine/\Pv (upd H6 D (.dK (putK aS k z))) else Pv H4)
  (done:∀ aS H2,SB [] H H2->H2 D=some (.dK aS)->R n aS H2->aS.length<=n->Qd H2) :
  ∃ W:Nat->Nat->Hp->Prop,(∃ m,W 0 m (upd H D (.dK [])))/\∀ i m H,W i m H ->
   (J.stop i H/\Qd H)\/(J.go i H/\∃ Nx:Hp->Prop,(∀ H',Nx H'->∃ m',m' < m/\W (i+1) m' H')/\∀ x H',J.yld i H x H'->g x (wipe σ vs) H' fun σ2 H2=>wipe σ2 vs=wipe σ vs/\tt σ2 H2 fun b H3 =>
    if b=true then tk σ2 H3 fun y H4=>tv σ2 H4 fun z H5=>∃ aS k,y=kV k/\H5 D=some (.dK aS)/\aS.length < sizeLine/\Nx (upd H5 D (.dK (putK aS k z))) else Nx H3):=by
 refine DD (body:=fun Nx x H'=>g x (wipe σ vs) H' fun σ2 H2=>wipe σ2 vs=wipe σ vs/\tt σ2 H2 fun b H3 =>
    if b=true then tk σ2 H3 fun y H4=>tv σ2 H4 fun z H5=>∃ aS k,y=kV k/\H5 D=some (.dK aS)/\aS.length < sizeLine/\Nx (upd H5 D (.dK (putK aS k z))) else Nx H3) w (fun i H2=>SB [D] H H2/\∃ aS,H2 D=some (.dK aS)/\R i aS H2/\aS.length<=i)
  ⟨SB.new hD _,[],Qt,st _ _ _ _ (SB.new hD _) h0,Yc _⟩ (fun i H2 _ h=>hG H2 (h.1.drop hD)) (fun i x H2 H' hi h y=>?_) (fun H2 h=>?_)
 ·obtain ⟨s2,aS,aV,hR,hl⟩:=h;refine turn _ i x H2 H' aS hi (s2.drop hD) y hR hl (fun k z H5 s5 r5=>?_) (fun H4 s4 r4=>⟨s2.trans s4.nil,aS,s4.keep _ _ aV aP,r4,by omega⟩);have eQ:=s5.keep _ _ aV aP;refine ⟨aS,k,Ja,eQ,by omega,(s2.trans s5.nil).trans (SB.kE eQ (by simp) _),_,Qt,st _ _ _ _ (SB.kE eQ (by simp) _) r5,?_⟩;have:=length_putK aS k z;omega
 ·obtain ⟨s2,aS,aV,hR,hl⟩:=h;exact done aS H2 (s2.drop hD) aV hR hl
end
theorem Ii {k:Key} (h:∀ p ∈ aS,p.1 ≠ k):putK aS k v=aS++[(k,v)]:=by
 unfold putK;rw [if_neg];intro z;obtain ⟨p,hp,e⟩:=List.any_eq_true.mp z;exact h p hp (Ks e)
theorem Bk.rV (nd:b.names.Nodup) {i:Nat} {k:Kd} (h:b[i]?=some k):∀ j ∈ b.take i,j.n ≠ k.n:=by
 intro j hj e;have e1:b.names=(b.take i).map (·.n)++(b.drop i).map (·.n):=by rw [<- Yj,List.take_append_drop]
 rw [e1] at nd;exact (List.nodup_append.mp nd).2.2 j.n (Ku ⟨j,hj,Ja⟩) k.n (Ku ⟨k,List.mem_of_getElem? (i:=0) (by rw [List.getElem?_drop]; exact h),Ja⟩) e
theorem SB.setG {o:HO} {ps:List Addr} (h:H p=some o) (hp:p ∈ ps) (n1:∀ xs,o ≠ .tup xs) (n2:∀ u v,o ≠ .frz u v) (o':HO):SB ps H (upd H p o'):=by
 refine ⟨fun b u e n=>?_,fun b u e=>?_,fun b v u e=>?_,fun b e=>?_⟩
 ·rw [upd_ne (fun (z:b=p)=>n (by rw [z]; exact hp))]; exact e
 ·rw [upd_ne (fun (z:b=p)=>by subst z; rw [h] at e; exact n1 _ (Yd e))]; exact e
 ·rw [upd_ne (fun (z:b=p)=>by subst z; rw [h] at e; exact n2 _ _ (Yd e))]; exact e
 ·by_cases q:b=p
  ·subst q; rw [Qt] at e; cases e
  ·rw [upd_ne q] at e; exact e
theorem Xo:∀ {b:Bk} {us:List V} {p:Key × V},p ∈ b.i5 us->∃ j ∈ b,p.1=Sum.inr j.n
 | [],_,p,h=>by cases h
 | k::b,[],p,h=>by cases h
 | k::b,u::us,p,h=>by
  rcases Qv (show p ∈ (Sum.inr k.n,u)::Bk.i5 b us from h) with h | h
  ·exact ⟨k,bM ..,by rw [h]⟩
  ·obtain ⟨j,hj,e⟩:=Xo h;exact ⟨j,bR _ hj,e⟩
section
variable {J:It} {n:Nat} {G:Hp->Prop} {Y:Nat->Hp->V->Hp->Prop}
theorem zf0 (w:Walk J n G Y) (ps:List Addr) {g:TG} {tt:TT} {te:TE} {vs:List Nat} {σ:L2.St} {H:Hp} {D:Addr} {Qd:Hp->Prop} (hD:H D=none) (DS:∀ q ∈ ps,H q ≠ none) (hn:n < sizeLine) (R:Nat->List V->Hp->Prop) (h0:R 0 [] H) (hG:∀ H2,SB ps H H2->G H2)
  (st:∀ i us H2 H3,SB [D] H2 H3->R i us H2->R i us H3)
  (turn:∀ (Pv:Hp->Prop) i x H2 H' us,i < n->SB ps H H2->Y i H2 x H'->R i us H2->us.length<=i->(∀ y H5,SB ps H2 H5->R (i+1) (us++[y]) H5->∃ acc,H5 D=some (.lst acc)/\acc.length < sizeLine/\Pv (upd H5 D (.lst (acc++[y])))) ->
   (∀ H4,SB ps H2 H4->R (i+1) us H4->Pv H4)->g x (wipe σ vs) H' fun σ2 H3=>wipe σ2 vs=wipe σ vs/\tt σ2 H3 fun b H4 =>
    if b=true then te σ2 H4 fun y H5=>∃ acc,H5 D=some (.lst acc)/\acc.length < sizeLine/\Pv (upd H5 D (.lst (acc++[y]))) else Pv H4)
  (done:∀ us H2,SB ps H H2->H2 D=some (.lst us)->R n us H2->us.length<=n->Qd H2) :
  ∃ W:Nat->Nat->Hp->Prop,(∃ m,W 0 m (upd H D (.lst [])))/\∀ i m H,W i m H ->
   (J.stop i H/\Qd H)\/(J.go i H/\∃ Nx:Hp->Prop,(∀ H',Nx H'->∃ m',m' < m/\W (i+1) m' H')/\∀ x H',J.yld i H x H'->g x (wipe σ vs) H' fun σ2 H2=>wipe σ2 vs=wipe σ vs/\tt σ2 H2 fun b H3 =>
    if b=true then te σ2 H3 fun y H4=>∃ acc,H4 D=some (.lst acc)/\acc.length < sizeLine/\Nx (upd H4 D (.lst (acc++[y]))) else Nx H3):=by
 have nD:D ∉ ps:=fun z=>DS D z hD;have up:∀ {H1 H2:Hp},SB ps H1 H2->SB (D::ps) H1 H2:=fun e=>e.mono fun b hb=>bR _ hb;have up1:∀ {H1 H2:Hp},SB [D] H1 H2->SB (D::ps) H1 H2:=fun e=>e.mono fun b hb=>by rw [Qy hb]; exact bM ..
 refine lc_it w (fun i H2=>SB (D::ps) H H2/\∃ us,H2 D=some (.lst us)/\R i us H2/\us.length<=i) ⟨SB.new hD _,[],Qt,st _ _ _ _ (SB.new hD _) h0,Yc _⟩ (fun i H2 _ h=>hG H2 (h.1.drop hD)) (fun i x H2 H' hi h y=>?_) (fun H2 h=>?_)
 ·obtain ⟨s2,us,aV,hR,hl⟩:=h;refine turn _ i x H2 H' us hi (s2.drop hD) y hR hl (fun y H5 s5 r5=>?_) (fun H4 s4 r4=>⟨s2.trans (up s4),us,s4.keep _ _ aV nD,r4,by omega⟩);have eQ:=s5.keep _ _ aV nD;refine ⟨us,eQ,by omega,(s2.trans (up s5)).trans (SB.set eQ (by simp) _),_,Qt,st _ _ _ _ (SB.set eQ (by simp) _) r5,?_⟩;rw [Yf,Yi]; omega
 ·obtain ⟨s2,us,aV,hR,hl⟩:=h;exact done us H2 (s2.drop hD) aV hR hl
end
abbrev zg6 (K:Qn):V->List V->Hp->VK->Prop:=fun x xs H Q=>∃ a p,∃ ys:List Str,x=.str a/\xs=[.ref p]/\(SqL K H p (ys.map V.str)\/SqT K H p (ys.map V.str))/\(ys.map (·.length)).sum+ys.length*a.length<=16777216/\Q (.str (Txt.join a ys)) H
theorem zd2:∀ r:Nat,r < 26->tw.cps.toList[r]?=some (97+r):=by
 have:∀ r:Fin 26,tw.cps.toList[r.val]?=some (97+r.val):=by decide +kernel
 intro r hr;exact this ⟨r,hr⟩
theorem ju.mid {a b:Str} {c:Nat} (ha:ju a n):(a++⟨#[c]⟩++b).cps.toList[n]?=some c:=by
 have e:(a++⟨#[c]⟩++b).cps.toList=a.cps.toList++(c::b.cps.toList):=by show (a.cps++#[c]++b.cps).toList=_; simp
 rw [e,List.getElem?_append_right (by rw [ha.1]; exact Yc _),ha.1,Nat.sub_self]
 rfl
theorem nodup_range {α:Type} {F:Nat->α} {m:Nat} (h:∀ i j,i < m->j < m->i ≠ j->F i ≠ F j):((List.range m).map F).Nodup:=by
 refine List.pairwise_map.mpr (List.Pairwise.imp_of_mem (fun {i j} hi hj hn=>h i j (List.mem_range.mp hi) (List.mem_range.mp hj) hn) List.nodup_range)
section
variable {D:Ends} {σ:L2.St} {H:Hp} {t u:TS} {te:TE} {g:TG} {c:TT}
theorem CN {f:L2.St->Hp->Prop} {r:VK} {b c':L2.St->Hp->Prop} (h:f σ H):tNext ⟨f,r,b,c'⟩ σ H:=h
theorem C9 (h:t { D with nx:=u D } σ H):tSeq t u D σ H:=h
theorem EF (h:te σ H fun x H1=>g x σ H1 D.nx):tAsg te g D σ H:=h
theorem ifI (h:c σ H fun b H1=>if b=true then t D σ H1 else u D σ H1):tIfS c t u D σ H:=h
end
theorem z9v {zs:List Str} (h:∀ z ∈ zs,dE z):SeqAt.shaped (.list (zs.map .str))=true:=by
 have h1:PyData.canLayAll0 (zs.map .str)=true:=by
  induction zs with
  | nil=>simp [PyData.canLayAll0]
  | cons z r ih =>
   rw [Ky,PyData.canLayAll0,ih fun y hy=>h y (bR _ hy)];simp [PyData.canLay0,Gr.dq (h z (bM ..))]
 have h2:PyData.depthAll (zs.map .str)=0:=by
  clear h1 h
  induction zs with
  | nil=>simp [PyData.depthAll]
  | cons z r ih=>rw [Ky,PyData.depthAll,ih]; simp [PyData.depth]
 unfold SeqAt.shaped;rw [PyData.canLay0,h1,Bool.true_and];exact Ya (by simp only [PyData.depth,h2]; omega)
theorem zf1 (zs:List Str):PyData.eqv (.list (zs.map .str)) (.list [])=decide (zs=[]):=by
 cases zs with
 | nil=>decide +kernel
 | cons z r=>simp [PyData.eqv,PyData.eqvAll]
section
variable {J:It} {n:Nat} {G:Hp->Prop} {Y:Nat->Hp->V->Hp->Prop}
theorem Py (w:Walk J n G Y) (ps:List Addr) {g:TG} {tt:TT} {te:TE} {vs:List Nat} {σ:L2.St} {H:Hp} {D:Addr} {Qd:Hp->Prop} (hD:H D=none) (DS:∀ q ∈ ps,H q ≠ none) (hn:n < sizeLine) (R:Nat->List V->Hp->Prop) (h0:R 0 [] H) (hG:∀ H2,SB ps H H2->G H2)
  (st:∀ i us H2 H3,SB [D] H2 H3->R i us H2->R i us H3)
  (turn:∀ (Pv:Hp->Prop) i x H2 H' us,i < n->SB ps H H2->Y i H2 x H'->R i us H2->us.length<=i->H2 D=some (.lst us)->(∀ y H5,SB ps H2 H5->R (i+1) (us++[y]) H5->∃ acc,H5 D=some (.lst acc)/\acc.length < sizeLine/\Pv (upd H5 D (.lst (acc++[y])))) ->
   (∀ H4,SB ps H2 H4->R (i+1) us H4->Pv H4)->g x (wipe σ vs) H' fun σ2 H3=>wipe σ2 vs=wipe σ vs/\tt σ2 H3 fun b H4 =>
    if b=true then te σ2 H4 fun y H5=>∃ acc,H5 D=some (.lst acc)/\acc.length < sizeLine/\Pv (upd H5 D (.lst (acc++[y]))) else Pv H4)
  (done:∀ us H2,SB ps H H2->H2 D=some (.lst us)->R n us H2->us.length<=n->Qd H2) :
  ∃ W:Nat->Nat->Hp->Prop,(∃ m,W 0 m (upd H D (.lst [])))/\∀ i m H,W i m H ->
   (J.stop i H/\Qd H)\/(J.go i H/\∃ Nx:Hp->Prop,(∀ H',Nx H'->∃ m',m' < m/\W (i+1) m' H')/\∀ x H',J.yld i H x H'->g x (wipe σ vs) H' fun σ2 H2=>wipe σ2 vs=wipe σ vs/\tt σ2 H2 fun b H3 =>
    if b=true then te σ2 H3 fun y H4=>∃ acc,H4 D=some (.lst acc)/\acc.length < sizeLine/\Nx (upd H4 D (.lst (acc++[y]))) else Nx H3):=by
 have nD:D ∉ ps:=fun z=>DS D z hD;have up:∀ {H1 H2:Hp},SB ps H1 H2->SB (D::ps) H1 H2:=fun e=>e.mono fun b hb=>bR _ hb;have up1:∀ {H1 H2:Hp},SB [D] H1 H2->SB (D::ps) H1 H2:=fun e=>e.mono fun b hb=>by rw [Qy hb]; exact bM ..
 refine lc_it w (fun i H2=>SB (D::ps) H H2/\∃ us,H2 D=some (.lst us)/\R i us H2/\us.length<=i) ⟨SB.new hD _,[],Qt,st _ _ _ _ (SB.new hD _) h0,Yc _⟩ (fun i H2 _ h=>hG H2 (h.1.drop hD)) (fun i x H2 H' hi h y=>?_) (fun H2 h=>?_)
 ·obtain ⟨s2,us,aV,hR,hl⟩:=h;refine turn _ i x H2 H' us hi (s2.drop hD) y hR hl aV (fun y H5 s5 r5=>?_) (fun H4 s4 r4=>⟨s2.trans (up s4),us,s4.keep _ _ aV nD,r4,by omega⟩);have eQ:=s5.keep _ _ aV nD;refine ⟨us,eQ,by omega,(s2.trans (up s5)).trans (SB.set eQ (by simp) _),_,Qt,st _ _ _ _ (SB.set eQ (by simp) _) r5,?_⟩;rw [Yf,Yi]; omega
 ·obtain ⟨s2,us,aV,hR,hl⟩:=h;exact done us H2 (s2.drop hD) aV hR hl
end
section
variable {K:Qn} {H H':Hp}
theorem Ij {α:Type} {enc:α->PyData}:∀ {vs:List V} {xs:List α},Bears K H enc vs xs->DpAll K H vs (xs.map enc)
 | _,_,.nil=>.nil
 | _,_,.cons h t=>.cons h (Ij t)
end
theorem Xe {n:Nat}:∀ {ds:List PyData},(∀ d ∈ ds,d.depth<=n)->PyData.depthAll ds<=n
 | [],_=>by simp [PyData.depthAll]
 | d::ds,h=>by
  have h1:=h d (bM ..);have h2:=Xe fun x hx=>h x (bR _ hx);rw [PyData.depthAll]; omega
open TL (tl)
theorem Fx {t rest:TS} {D:Ends} {σ:L2.St} (R:L2.St->Hp->Prop) (h:∀ nx:L2.St->Hp->Prop,(∀ σ' H',R σ' H'->nx σ' H')->t { D with nx:=nx } σ H) (k:∀ σ' H',R σ' H'->rest D σ' H'):tSeq t rest D σ H:=h (rest D) k
theorem cJ {σ:L2.St} {f:L2.St->Hp->Prop} {r:VK} {b c:L2.St->Hp->Prop} (h:f (σ.set i (some v)) H):gName i v σ H (Ends.mk f r b c).nx:=h
theorem Bk.Ok.two (ok:b.Ok):∀ k ∈ b,k.rs.length<=4/\∀ r ∈ k.rs,dV r:=fun k hk=>⟨(ok.kd k hk).2.1,fun r hr=>((ok.kd k hk).2.2 r hr).1⟩
theorem Bk.Ok.three (ok:b.Ok):∀ k ∈ b,dE k.n/\∀ r ∈ k.rs,dV r:=fun k hk=>⟨(ok.kd k hk).1,(ok.two k hk).2⟩
theorem zca {C B:Addr} {l:Addr} {E:XK} (hl:H l=some (.lst xs)) (ha:KdAll K H bad xs b) (ok:b.Ok) (k:∀ y H',SB [] H H'->H y=none->hJ K C H' (.ref y) b->Q (.ref y) H') :
  ∀ y dx,H y=none->H dx=none->dx ≠ y->NY K C B (.ref y::[.ref l]) (upd (upd H dx (.own y)) y (.ins C dx [])) (fun v H2=>v=.non/\Q (.ref y) H2) E:=by
 intro y dx hy yO n6;have b8:=ok.len;have AS:upd H dx (.own y) y=none:=by rw [upd_ne (fun z=>n6 z.symm)]; exact hy
 have t4:=(Jb yO (.own y)).trans (SB.new AS (.ins C dx []));have SX:upd (upd H dx (.own y)) y (.ins C dx []) dx=some (.own y):=by rw [upd_ne n6,Qt]
 have xF:upd (upd H dx (.own y)) y (.ins C dx []) y=some (.ins C dx []):=Qt;refine ⟨y,dx,l,xs,b.map Kd.kt,Ja,xF,SX,t4.keep _ _ hl aP,(ha.sb t4 d6.nil).kt ok.three,fun t ht=>?_,by rw [Ye]; omega,fun b' e ok' H5 s5 OY=>?_,fun z=>absurd ⟨b,rfl,ok⟩ z⟩
 ·obtain ⟨k,hk,rfl⟩:=Qx ht;exact zdh (ok.two k hk)
 ·have e:=PV e;subst e;exact ⟨rfl,k y H5 (((t4.nil (ps:=[y])).trans s5).drop hy) hy OY⟩
theorem Fs {x:Int} {a b:Nat} (h:x.natAbs < 2 ^ a) (hb:a<=b) (h0:0 < a):x.natAbs.log2 < b:=by
 by_cases e:x.natAbs=0
 ·rw [e]; simp [Nat.log2_zero]; omega
 ·exact Nat.lt_of_lt_of_le ((Nat.log2_lt e).mpr h) hb
open PySem.Froz (SD sObj TxOk addTx tailTx)
structure TxS (P:Program) (w:World) (D:SD) (l:List Str):Prop where
 ok:TxOk P w D l
 nd:l.Nodup
 ris:Ris D.2.2.place.toList
 led:w.params.followText "set-order"=true\/D.2.2.led=true
def hV (k:Str) (l:List Str):List Str:=if k ∈ l then l else k::l
section
variable {P:Program} {w:World} {A:Around} {E:Value->Shared->Prop} {s:Shared} {D:SD} {l:List Str} {k:Str} {u:Tok} {a:Addr} {T:String}
theorem zbo {es:Array (Int × Value)} {ep:Nat} {t:SetTable} {b:Bool} (r:Ris t.place.toList) (d:w.params.followText "set-order"=true\/t.led=true) :
  Ris (tailTx ep es t b).2.2.place.toList/\(w.params.followText "set-order"=true\/(tailTx ep es t b).2.2.led=true):=by
 unfold tailTx
 split
 ·exact ⟨relayAll_ris ..,d.imp id fun z=>by rw [relayAll_led]; exact z⟩
 ·exact ⟨r,d⟩
theorem TxS.add (F:TxS P w D l) (hk:k ∉ l):TxS P w (addTx (hashStr w k) (.str k u) D) (k::l):=by
 obtain ⟨es,ep,t⟩:=D;have r1:=layNew_ris t es (hashStr w k) (.str k u) F.ris;have d1:=F.led.imp id fun z=>(layNew_led t es (hashStr w k) (.str k u)).trans z;have key:∀ t':SetTable,t'.place=(layNew t es (hashStr w k) (.str k u)).2.1.place->t'.led=(layNew t es (hashStr w k) (.str k u)).2.1.led->∀ TX b,Ris (tailTx ep TX t' b).2.2.place.toList/\(w.params.followText "set-order"=true\/(tailTx ep TX t' b).2.2.led=true) :=
  fun t' e1 e2 TX b=>zbo (by rw [e1]; exact r1) (by rw [e2]; exact d1)
 have z:=key (if (layNew t es (hashStr w k) (.str k u)).2.1.plain=true then { (layNew t es (hashStr w k) (.str k u)).2.1 with plain:=false } else (layNew t es (hashStr w k) (.str k u)).2.1) (by split <;> rfl) (by split <;> rfl) (layNew t es (hashStr w k) (.str k u)).1 (layNew t es (hashStr w k) (.str k u)).2.2.1;exact ⟨PySem.Froz.add_ok u F.ok,List.nodup_cons.mpr ⟨hk,F.nd⟩,z.1,z.2⟩
theorem zbw {Q:Bool->Shared->Prop} (ho:s.heap.get? a=some (sObj T D)) (F:TxOk P w D l) (hk:k ∈ l) (hb:l.length < scanBound) (h:Q false s):wpAny (model P w) A (setAddHashed a (.str k u) (hashStr w k)) Q E s:=by
 obtain ⟨es,ep,t⟩:=D;have hd:(sObj T (es,ep,t)).data=.set es ep t:=rfl;have BZ:ElemsOf (strKind P w) es.toList:=F.el;have oL:es.size=l.length:=F.sz;have is0:(strKind P w).is k (.str k u)=true:=PySem.Froz.is_str k u;obtain ⟨j,hj⟩:∃ j,List.findIdx? (fun e=>(strKind P w).is k e.2) es.toList=some j:=by
  cases e:List.findIdx? (fun e=>(strKind P w).is k e.2) es.toList with
  | some j=>exact ⟨j,Ja⟩
  | none =>
   obtain ⟨x,hx,hi⟩:=(F.mem k).mp hk;have:=List.findIdx?_eq_none_iff.mp e x hx;rw [hi] at this;cases this
 unfold setAddHashed setAddHashedIn;refine wpAny_holding (Ke (wpAny_setState_of ho hd F.fit ?_));dsimp only;rw [byScan_of rfl (by rw [oL]; exact hb) BZ];simp only [↓reduceIte];unfold setAddByScan;refine Ke (Ke (wpAny_rule (Ke (wpAny_setScan_of (knd:=strKind P w) (k:=k) is0 ho hd F.fit BZ ?_))));rw [hj];exact wpAny_pure (wpAny_pure h)
theorem zfr {Q:Bool->Shared->Prop} (ho:s.heap.get? a=some (sObj T D)) (F:TxS P w D l) (hb:l.length+1 < scanBound)
  (h:∀ (b:Bool) (h':Heap) (D':SD),Heap.SameBut a s.heap h'->h'.get? a=some (sObj T D')->TxS P w D' (hV k l)->Q b { s with heap:=h' }):wpAny (model P w) A (setAddHashed a (.str k u) (hashStr w k)) Q E s:=by
 by_cases hk:k ∈ l
 ·refine zbw ho F.ok hk (by omega) (h false s.heap D (Heap.SameBut.refl a s.heap) ho ?_);unfold hV;rw [if_pos hk];exact F
 ·refine PySem.Froz.add_x ho F.ok hk hb (h true _ _ (Heap.SameBut.update ..) (PySem.Froz.get_upd _ ho rfl) ?_);unfold hV;rw [if_neg hk];exact F.add hk
end
section
variable {P:Program} {w:World} {A:Around} {E:Value->Shared->Prop} {s:Shared} {D:SD} {l:List Str} {k:Str} {u:Tok} {a:Addr}
theorem zcv {Q:Value->Shared->Prop} (ho:s.heap.get? a=some (sObj "set" D)) (F:TxS P w D l) (hb:l.length+1 < scanBound)
  (h:∀ (h':Heap) (D':SD),Heap.SameBut a s.heap h'->h'.get? a=some (sObj "set" D')->TxS P w D' (hV k l)->Q .none { s with heap:=h',toks:=s.toks+1 }):wpAny (model P w) A (call (.builtin "set.add") [.ref a,.str k u]) Q E s:=by
 refine wpAny_call_entry PySem.F.slot_set_add ⟨_,ho,Ja⟩ PySem.F.entry_set_add ?_ (PySem.F.args_set_add_2 _ _);unfold Builtin.«set.add» Builtin.Frozenset.oneOther;simp only [List.isEmpty_nil,bind_assoc];unfold Builtin.Frozenset.addrOf setAdd;refine Ke (wpAny_pure ?_)
 try dsimp only
 refine Ke (wpAny_pure ?_)
 try dsimp only
 refine Ke (wpAny_holding (Ke ((strKind P w).pyHash (k:=k) (PySem.Froz.is_str k u) ?_)));refine zfr (s:={ s with toks:=s.toks+1 }) ho F hb fun b h' D' sb o' F'=>?_;refine (?_:wpAny (model P w) _ (ret Value.none) _ E _);exact wpAny_pure ⟨_,Ja,h h' D' sb o' F'⟩
end
def bY (P:Program) (w:World) (a:Addr) (l:List Str):HO:=.ext fun h=>∃ D:SD,h.get? a=some (sObj "set" D)/\TxS P w D l
theorem Xk {w:World} {l:List Str} {D:SD} (ho:h.get? a=some (sObj "set" D)) (F:TxS P w D l):ObjOk P w H h a (bY P w a l) :=
 ⟨⟨D,ho,F⟩,⟨_,ho⟩,fun h1 h2 ⟨D',q,F'⟩ k=>⟨D',k _ q,F'⟩⟩
section
variable {X:Cx} {pins:List (Addr × Obj)} {σ:L2.St} {H:Hp} {s:Shared} {l:List Str}
theorem Xj (I:Inv X pins σ H s) (ha:H a=some (bY X.prog X.w a l)):∃ D:SD,s.heap.get? a=some (sObj "set" D)/\TxS X.prog X.w D l:=(I.hok a _ ha).1
theorem zev {E:Value->Shared->Prop} {k:Str} {u:Tok} {Q:Value->Shared->Prop} (I:Inv X pins σ H s) (ha:H a=some (bY X.prog X.w a l)) (room:l.length+1 < scanBound)
  (h:∀ s',Inv X pins σ (upd H a (bY X.prog X.w a (hV k l))) s'->Q .none s'):wpAny (model X.prog X.w) X.A (call (.builtin "set.add") [.ref a,.str k u]) Q E s:=by
 obtain ⟨D,ho,F⟩:=Xj I ha;refine zcv ho F room fun h' D' sb o' F'=>?_;exact h _ (I.write (e:=a) (t':=s.toks+1) (by rw [ha]; trivial) (.inl rfl) (fun b o hb hu=>(sb.2 b hb).trans hu) ⟨_,o'⟩ (Xk o' F'))
end
theorem zbq (P:Program) (w:World):TxS P w (#[],0,.fresh 0 0 (!w.params.followText "set-order")) []:=by
 refine ⟨PySem.Froz.TxOk.nil rfl,List.nodup_nil,List.Pairwise.nil,?_⟩;show _\/(!w.params.followText "set-order")=true;cases w.params.followText "set-order"
 ·exact .inr rfl
 ·exact .inl rfl
theorem Ww {w:World} {k:Str} {v:Value} (h:(strKind P w).is k v=true):∃ tk,v=Value.str k tk:=by
 have h:Value.isStrOf k v=true:=h;cases v <;> simp [Value.isStrOf] at h;exact ⟨_,by rw [h]⟩
theorem Wa:∀ (l:List Value),(∀ v ∈ l,∃ k tk,v=Value.str k tk)->∃ ss:List Str,StrsAre l ss/\∀ k,k ∈ ss ↔ ∃ v ∈ l,∃ tk,v=Value.str k tk
 | [],_=>⟨[],.nil,fun k=>by simp⟩
 | v::r,h=>by
  obtain ⟨k,tk,rfl⟩:=h v (bM ..);obtain ⟨ss,h1,h2⟩:=Wa r fun x hx=>h x (bR _ hx);refine ⟨k::ss,.cons k tk h1,fun j=>?_⟩;rw [List.mem_cons,h2 j];refine ⟨fun z=>?_,fun ⟨x,hx,t',e⟩=>?_⟩
  ·rcases z with rfl | ⟨x,hx,e⟩
   ·exact ⟨_,bM ..,tk,Ja⟩
   ·exact ⟨x,bR _ hx,e⟩
  ·rcases Qv hx with q | q
   ·rw [q] at e; cases e; exact .inl rfl
   ·exact .inr ⟨x,q,t',e⟩
theorem VY {α:Type}:∀ {a b:List α},b.Nodup->a.length=b.length->(∀ k,k ∈ b->k ∈ a)->a.Perm b
 | a,[],_,hl,_=>by
  have:a=[]:=List.eq_nil_of_length_eq_zero hl;rw [this]
 | a,x::b,nd,hl,hm=>by
  obtain ⟨p,q,e⟩:=List.append_of_mem (hm x (bM ..));subst e;obtain ⟨n1,n2⟩:=List.nodup_cons.mp nd;have ih:=VY (a:=p++q) (b:=b) n2 (by simp at hl ⊢; omega) fun k hk=>by
   have hx:k ≠ x:=fun z=>n1 (z ▸ hk);have:=hm k (bR _ hk);simp only [List.mem_append,List.mem_cons] at this ⊢;rcases this with z | z | z
   ·exact .inl z
   ·exact absurd z hx
   ·exact .inr z
  exact List.perm_middle.trans (ih.cons x)
section
variable {P:Program} {w:World} {A:Around} {E:Value->Shared->Prop} {s:Shared} {D:SD} {l:List Str} {a:Addr}
theorem zay {Q:Value->Shared->Prop} (hh:A.handled=none) (ho:s.heap.get? a=some (sObj "set" D)) (F:TxS P w D l) (Tx:l.length < 64)
  (h:∀ (s':Shared) (p:Addr) (out:Array Value) (c:Nat) (ss:List Str),(∀ b o,s.heap.get? b=some o->s'.heap.get? b=some o)->s'.gens=s.gens->s'.os=s.os->s.heap.objs.size<=p->s'.heap.get? p=some (seqObj "list" out c)->StrsAre out.toList ss->ss.Perm l->sortedS ss=true->Q (.ref p) s') :
  wpAny (model P w) A (call (.builtin "sorted") [.ref a]) Q E s:=by
 obtain ⟨es,ep,t⟩:=D;have oL:es.size=l.length:=F.ok.sz;have oN:es.size < scanBound:=by rw [oL]; unfold scanBound; omega
 refine Calls.call_function_entry kind_sorted plain_sorted entry_sorted (args_sorted1 _) ?_;unfold Builtin.«sorted»;refine wpAny_bind (m:=checkCount "sorted" 1 1 _) (wpAny_pure ?_);refine Ke (collect_set (A:=A.in1) hh ⟨_,ho,Ja,Ja⟩ F.ok.fit oN F.ris F.led fun s1 vs k1 z1 g1 o1 pm=>?_);have vl:vs.length=l.length:=by rw [pm.length_eq,Ye,Array.length_toList,oL]
 have shape:∀ v ∈ vs,∃ k tk,v=Value.str k tk:=fun v hv=>by
  obtain ⟨e,he,rfl⟩:=Qx (pm.mem_iff.mp hv);obtain ⟨⟨k,hk,_⟩,_⟩:=F.ok.el e he;obtain ⟨tk,q⟩:=Ww hk;exact ⟨k,tk,q⟩
 obtain ⟨ss,hS,DZ⟩:=Wa vs shape;have hp:ss.Perm l:=by
  refine VY F.nd (by rw [<- hS.length]; exact vl) fun k hk=>?_;obtain ⟨e,he,hi⟩:=(F.ok.mem k).mp hk;obtain ⟨tk,q⟩:=Ww hi;exact (DZ k).mpr ⟨e.2,pm.mem_iff.mpr (List.mem_map_of_mem he),tk,q⟩
 refine Ke (wpAny_newList ?_ (by rw [vl,sizeLine_eq]; omega));have Uv:(s1.heap.push (seqObj "list" vs.toArray 0)).get? s1.heap.objs.size=some (seqObj "list" vs.toArray 0):=Heap.get?_push_size _ rfl;refine Ke (wpAny_holding (wpAny_call_entry slot_list_sort ⟨_,Uv,Ja⟩ entry_list_sort (list_sort_treeK strKind_oneLt Uv hS.keysOf (fun v1 v2 r e=>keyKind_strs (by rw [<- e]; exact hS)) (by rw [vl]; exact Tx) fun QT p1 p2=>⟨_,Ja,?_⟩) (args_list_sort _)));obtain ⟨Ar,q1,q2,q3⟩:=sorted_out_str hS p1 p2;obtain ⟨c,hc⟩:=sortedHeap_at (vs:=vs) (out:=(arrOf QT).map (·.2)) Uv;refine wpAny_pure ⟨_,Ja,h _ s1.heap.objs.size _ c Ar (fun b o e=>?_) g1 o1 z1 hc q1 (q2.trans hp) q3⟩;have e1:=k1 b o e;have lt:=Heap.lt_size e1;show (sortedHeap (s1.heap.push (seqObj "list" vs.toArray 0)) s1.heap.objs.size vs _).get? b=some o;rw [sortedHeap_old (Nat.ne_of_lt lt) (by rw [size_push']; exact Nat.lt_succ_of_lt lt)];exact Heap.get?_push_of_some _ e1
end
section
variable {X:Cx}
def zc9 (P:Program) (w:World):List V->Hp->VK->Prop:=fun vs H Q=>∃ (a:Addr) (l:List Str),vs=[.ref a]/\H a=some (bY P w a l)/\l.length < 64/\∀ (ss:List Str) (p:Addr),ss.Perm l->sortedS ss=true->H p=none->Q (.ref p) (upd H p (.lst (ss.map V.str)))
theorem XC (hc:X.calm=true):CallR X (.builtin "sorted") (zc9 X.prog X.w):=by
 intro pins s σ H vs us Q I r h;obtain ⟨a,l,rfl,ha,Tx,q⟩:=h;obtain ⟨D,ho,F⟩:=Xj I ha;rw [Vals.ref1 r];refine zay (I.ok.hd hc) ho F Tx fun s' p out c ss kp eg eo hp at' hS pm srt=>?_;have hn:H p=none:=I.hok.fresh hp;have hz:(ss.map V.str).length<=sizeLine:=by rw [Ye,pm.length_eq,sizeLine_eq]; omega
 obtain ⟨h',g',d',XS,Rr⟩:=s';have eo:Rr=s.os:=eo;subst eo;exact ⟨.ref p,upd H p (.lst (ss.map V.str)),I.call (ch:=[]) (Un.laid kp hp hn) (I.hok.laid kp hp ⟨hz,out.toList,c,vals_of_strs hS,at'⟩) (by rw [show g'=s.gens from eg]; exact I.bare) (fun _ z=>nomatch z),rfl,q ss p pm srt hn⟩
end
section
variable {X:Cx}
def QP (P:Program) (w:World) (wi:TI) (g:TG) (tt:TT) (te:TE) (vs:List Nat):TE:=fun σ H Q=>wi σ H fun J H1=>∀ D,H1 D=none->∃ W:Nat->Nat->Hp->Prop,(∃ m,W 0 m (upd H1 D (bY P w D [])))/\∀ i m Hi,W i m Hi ->
 (J.stop i Hi/\Q (.ref D) Hi)\/(J.go i Hi/\∃ Nx:Hp->Prop,(∀ H',Nx H'->∃ m',m' < m/\W (i+1) m' H')/\∀ x H',J.yld i Hi x H'->g x (wipe σ vs) H' fun σ2 H2=>wipe σ2 vs=wipe σ vs/\tt σ2 H2 fun b H3 =>
  if b=true then te σ2 H3 fun y H4=>∃ (z:Str) (l:List Str),y=.str z/\H4 D=some (bY P w D l)/\l.length+1 < scanBound/\Nx (upd H4 D (bY P w D (hV z l))) else Nx H3)
theorem VH {elt tg iter:Expr} {ifs:List Expr} {scope:Scope} {own:List (PySem.Str × Nat)} {pos:Pos} {wi:TI} {g:TG} {tt:TT} {te:TE} (hc:X.calm=true) (hN:X.N.Nodup) (hi:PI X tg iter wi) (ok:BlkOk X.N X.env.scope scope own)
  (hg:∀ (s1:Shared) (H1:Hp) (C:Addr) (cl:List (PySem.Str × Addr)) (fp:List Addr),L2.PG (X.blk s1 H1 scope (compEnvC scope cl C X.env) fp) tg g) (ht:∀ (s1:Shared) (H1:Hp) (C:Addr) (cl:List (PySem.Str × Addr)) (fp:List Addr),L2.PTs (X.blk s1 H1 scope (compEnvC scope cl C X.env) fp) ifs tt)
  (he:∀ (s1:Shared) (H1:Hp) (C:Addr) (cl:List (PySem.Str × Addr)) (fp:List Addr),L2.PE (X.blk s1 H1 scope (compEnvC scope cl C X.env) fp) elt te) (hs:∀ x,foldedSetIterable iter X.env x=pure x:=by intro _; rfl) :
  PE X (.SetComp elt [⟨tg,iter,ifs,0⟩] scope pos) (QP X.prog X.w wi g tt te (own.map (·.2))):=by
 refine ⟨fun pins s σ H Q I h=>?_⟩;rw [PpSet.eval_SetComp];have clo:∀ y ∈ scope.names,y.2=.free->∃ c,X.env.cells.lookup y.1=some c:=fun y hy e=>(ok.free y hy e).elim (fun k=>I.ok.has _ (.inl k)) fun k=>I.ok.has _ (.inr k);refine wpAny_comprehension_free (use:=none) rfl hs (closure_ok clo) ok.kind (fun y hy e=>by rw [ok.uniq y hy,e]) (thn (hi.run pins s σ H _ I h) fun xv s1 hx=>thn hx fun itv s2 got=>?_);obtain ⟨it,fp,tn,J,Ha,e0,Ia,Tn,XY,ZN,walk⟩:=got;subst e0;refine PpSet.newSet_ok (newEnv_comp ?_)
 -- the new set,at the heap's end
 generalize eD:s2.heap.objs.size=D;have Mc:Ha D=none:=Ia.hok.fresh (Nat.le_of_eq eD);obtain ⟨W,⟨m0,w0⟩,turn⟩:=walk D Mc;generalize eb:({ s2 with heap:=s2.heap.push { cls:=.type "set",dict:=none,data:=.set #[] 0 (.fresh 0 0 (!X.w.params.followText "set-order")) } }:Shared)=sb;have qV:sb.heap=s2.heap.push { cls:=.type "set",dict:=none,data:=.set #[] 0 (.fresh 0 0 (!X.w.params.followText "set-order")) }:=by rw [<- eb]
 have Ib:Inv X pins σ (upd Ha D (bY X.prog X.w D [])) sb:=by
  rw [<- eb];refine Ia.laid (t':=s2.toks) (fun b o e=>Heap.get?_push_of_some _ e) (Nat.le_of_eq eD) ?_;rw [<- eD];exact Xk (Heap.get?_push_size _ rfl) (zbq X.prog X.w)
 have low:∀ b ∈ fp,b < s2.heap.objs.size:=fun b hb=>let ⟨o,e,_⟩:=Tn.obj _ _ XY b hb; Heap.lt_size e;have Ex:∀ b ∈ fp,FpOk X pins (upd Ha D (bY X.prog X.w D [])) b/\b < sb.heap.objs.size:=fun b hb=>by
  refine ⟨⟨?_,(ZN b hb).2⟩,by rw [qV,Heap.size_push]; exact Nat.lt_succ_of_lt (low b hb)⟩;rw [upd_ne (by rw [<- eD]; exact Nat.ne_of_lt (low b hb))];exact (ZN b hb).1
 have stb:tn 0 sb.heap:=Tn.keep _ _ _ XY fun b _ o e=>by rw [qV]; exact Heap.get?_push_of_some _ e
 have Ic:=block_start Ib ok hN Ex;generalize eHb:upd Ha D (bY X.prog X.w D [])=Hb at Ib Ic w0 Ex;have pg:=hg sb Hb sb.heap.objs.size (cellsFrom (sb.heap.objs.size+1) scope.names (cloFrom X.env.cells scope.names [])) fp;have pt:=ht sb Hb sb.heap.objs.size (cellsFrom (sb.heap.objs.size+1) scope.names (cloFrom X.env.cells scope.names [])) fp;have pe:=he sb Hb sb.heap.objs.size (cellsFrom (sb.heap.objs.size+1) scope.names (cloFrom X.env.cells scope.names [])) fp;show codeAny (model X.prog X.w) X.A (.compStart (.SetComp elt [⟨tg,iter,ifs,0⟩] scope pos) 0 (.ref it) (.ref D) (compEnvC scope (cellsFrom (sb.heap.objs.size+1) scope.names (cloFrom X.env.cells scope.names [])) sb.heap.objs.size X.env)) (compPost (model X.prog X.w) X.A X.xe none (EP X pins σ Q) (.ref D) sb.heap.objs.size) { sb with heap:=pushCells (sb.heap.push { cls:=.type "dict",data:=.dict #[] }) scope.names };have I5:∀ b ∈ fp,Hb b=none:=fun b hb=>(Ex b hb).1.1;generalize ece:compEnvC scope (cellsFrom (sb.heap.objs.size+1) scope.names (cloFrom X.env.cells scope.names [])) sb.heap.objs.size X.env=ce at Ic pg pt pe ⊢;have ZT:ce.locals=sb.heap.objs.size:=by subst ece; rfl
 generalize esc:({ sb with heap:=pushCells (sb.heap.push { cls:=.type "dict",data:=.dict #[] }) scope.names }:Shared)=sc at Ic ⊢;have XX:tn 0 sc.heap:=Tn.keep _ _ _ stb fun b _ o e=>by rw [<- esc]; exact pushCells_keeps _ _ _ _ (Heap.get?_push_of_some _ e)
 -- the block's context
 let XB:Cx:=X.blk sb Hb scope ce fp
 have x6:∀ {τ:L2.St} {G:Hp} {t:Shared},Inv XB [] τ G t->(∀ b ∈ fp,G b=none)->∀ b ∈ fp,FpOk XB [] G b:=fun {τ G t} I' hn b hb =>
  ⟨hn b hb,(I'.ok.exf b hb).1,I'.ok.exfs b hb,.inl hb,fun x c e=>(I'.ok.exf b hb).2 x c e,fun p hp=>absurd (show p ∈ ([]:List (Addr × Obj))++[] from hp) (by simp)⟩
 have loop:codeAny (model X.prog X.w) X.A (.compLoop (.SetComp elt [⟨tg,iter,ifs,0⟩] scope pos) 0 (.ref it) (.ref D) ce) (compPost (model X.prog X.w) X.A X.xe none (EP X pins σ Q) (.ref D) sb.heap.objs.size) sc:=by
  refine PpSet.compLoopS_any (fun n t=>∃ i G,Inv XB [] (wipe σ (own.map (·.2))) G t/\tn i t.heap/\(∀ b ∈ fp,G b=none)/\W i n G) ?_ m0 ⟨0,Hb,Ic,XX,I5,w0⟩
  rintro n t ⟨i,G,It,XW,nt,wt⟩
  rcases turn i n G wt with ⟨ends,qq⟩ | ⟨goes,Nx,hNx,step⟩
  ·refine thnF (Tn.done XB rfl rfl rfl hc i [] t _ G (fun _ _=>False) It (x6 It nt) XW ends) fun r t6 ⟨er,I6⟩=>?_;subst er;have I7:Inv X pins σ G t6:=Ib.call' (ch:=fp) I6.os I6.base I6.hok I6.bare fun b hb=>⟨(Ex b hb).1.2.2.2.1,(Ex b hb).1.2.1,(Ex b hb).1.2.2.2.2.1,(Ex b hb).1.2.2.2.2.2⟩;have nC:G sb.heap.objs.size=none:=ZT ▸ (show G ce.locals=none from I6.free);obtain ⟨m,hn,_⟩:=I6.loc;have hn:t6.heap.Ns sb.heap.objs.size m:=ZT ▸ (show t6.heap.Ns ce.locals m from hn);obtain ⟨f0,f1,f2,f3,f4,f5⟩:=Ib.fpOk (Yc _) nC;exact ⟨m,hn,fun h'' same=>⟨.ref D,G,I7.turned (t':=t6.toks) (fun b o hb e=>(same.2 b hb).trans e) f0 f1 f3 f4 f5,Ja,qq⟩⟩
  ·refine thnF (Tn.item XB rfl rfl rfl hc i [] t _ G (fun _ _=>False) It (x6 It nt) XW goes) fun r t6 ⟨u,er,h6⟩=>?_;subst er;refine thnF h6 fun _ t7 ⟨x,G7,I7,r7,y7,QS,n7⟩=>?_;have P7:=I7.pinned (x6 I7 n7) (Tn.obj _ _ QS);refine thnF (pg.run _ t7 _ G7 x u _ P7 r7 (step x G7 y7)) fun _ t8 ⟨τ,G8,I8,hw,q8⟩=>?_;refine thnF (pt.run _ t8 τ G8 _ I8 q8) fun b t9 ⟨G9,I9,q9⟩=>?_;have back:∀ {t':Shared} {G':Hp},Inv XB ([]++pinsAt fp t7.heap) τ G' t'->Nx G'->∃ m,m < n/\∃ i G,Inv XB [] (wipe σ (own.map (·.2))) G t'/\tn i t'.heap/\(∀ b ∈ fp,G b=none)/\W i m G:=fun {t' G'} I' nx=>by
    obtain ⟨m',hm,w'⟩:=hNx G' nx;have keep:∀ b ∈ fp,∀ o,t7.heap.get? b=some o->t'.heap.get? b=some o/\G' b=none:=fun b hb o e =>
     have z:=I'.pin (b,o) (kP _ (kP _ (mem_pinsAt hb e)))
     ⟨z.1,z.2.1⟩
    refine ⟨m',hm,i+1,G',(I'.unpinned (pins:=[])).weak (by rw [<- hw,wipe_length]) (fun j v e=>(wipe_some (hw ▸ e)).1),Tn.keep _ _ _ QS fun b hb o e=>(keep b hb o e).1,fun b hb=>?_,w'⟩;obtain ⟨o,e,_⟩:=Tn.obj _ _ QS b hb;exact (keep b hb o e).2
   cases b with
   | false=>exact back I9 q9
   | true =>
    refine thnF (pe.run _ t9 τ G9 _ I9 q9) fun z kj ⟨yv,G10,I10,Rn,zz,l0,ey,Bi,room,nx⟩=>?_;subst ey;obtain ⟨tk,rfl⟩:=Rn;exact zev (X:=XB) I10 Bi room fun nQ I11=>back I11 nx
 exact PpSet.codeAny_compStart_set loop (Tn.self X.A 0 _ _ _ XX loop)
end
open PySem.Froz (SD sObj TxOk addTx tailTx)
theorem We {k x:Str} {l:List Str}:k ∈ hV x l ↔ k=x\/k ∈ l:=by
 unfold hV
 split
 ·rename_i h;exact ⟨.inr,fun z=>z.elim (fun e=>e ▸ h) id⟩
 ·exact List.mem_cons
theorem zdk (x:Str) (l:List Str):(hV x l).length<=l.length+1:=by
 unfold hV
 split
 ·omega
 ·simp
theorem Xx:∀ {l:List Str} {p:Str},risingS p l=true->∀ x ∈ l,¬ x.cps.toList < p.cps.toList
 | [],_,_,x,h=>by cases h
 | y::r,p,h,x,hx=>by
  rw [risingS,Bool.and_eq_true,Bool.not_eq_true',ltCps_eq] at h;have h1:¬ y.cps.toList < p.cps.toList:=of_decide_eq_false h.1;rcases Qv hx with e | e
  ·rw [e]; exact h1
  ·exact List.le_trans h1 (Xx h.2 x e)
theorem z94 {x:Str} {r:List Str} (h:sortedS (x::r)=true):sortedS r=true:=by
 cases r with
 | nil=>rfl
 | cons y s =>
  have h:risingS x (y::s)=true:=h;rw [risingS,Bool.and_eq_true] at h;exact h.2
section
variable {J:It} {n:Nat} {G:Hp->Prop} {Y:Nat->Hp->V->Hp->Prop} {P:Program} {w':World}
theorem bY.BM {l:List Str}:(∀ xs,bY P w' a l ≠ .tup xs)/\∀ u v,bY P w' a l ≠ .frz u v:=⟨(fun _ z=>nomatch z),(fun _ _ z=>nomatch z)⟩
theorem VD (w:Walk J n G Y) {g:TG} {tt:TT} {te:TE} {vs:List Nat} {σ:L2.St} {H:Hp} {D:Addr} {Qd:Hp->Prop} (hD:H D=none) (hn:n+1 < scanBound) (R:Nat->List Str->Hp->Prop) (h0:R 0 [] H) (hG:∀ H2,SB [] H H2->G H2)
  (st:∀ i us H2 H3,SB [D] H2 H3->R i us H2->R i us H3)
  (turn:∀ (Pv:Hp->Prop) i x H2 H' us,i < n->SB [] H H2->Y i H2 x H'->R i us H2->us.length<=i->(∀ z H5,SB [] H2 H5->R (i+1) (hV z us) H5->∃ (z':Str) (l:List Str),V.str z=.str z'/\H5 D=some (bY P w' D l)/\l.length+1 < scanBound/\Pv (upd H5 D (bY P w' D (hV z' l)))) ->
   (∀ H4,SB [] H2 H4->R (i+1) us H4->Pv H4)->g x (wipe σ vs) H' fun σ2 H3=>wipe σ2 vs=wipe σ vs/\tt σ2 H3 fun b H4 =>
    if b=true then te σ2 H4 fun y H5=>∃ (z:Str) (l:List Str),y=.str z/\H5 D=some (bY P w' D l)/\l.length+1 < scanBound/\Pv (upd H5 D (bY P w' D (hV z l))) else Pv H4)
  (done:∀ us H2,SB [] H H2->H2 D=some (bY P w' D us)->R n us H2->us.length<=n->Qd H2) :
  ∃ W:Nat->Nat->Hp->Prop,(∃ m,W 0 m (upd H D (bY P w' D [])))/\∀ i m Hi,W i m Hi ->
   (J.stop i Hi/\Qd Hi)\/(J.go i Hi/\∃ Nx:Hp->Prop,(∀ H',Nx H'->∃ m',m' < m/\W (i+1) m' H')/\∀ x H',J.yld i Hi x H'->g x (wipe σ vs) H' fun σ2 H2=>wipe σ2 vs=wipe σ vs/\tt σ2 H2 fun b H3 =>
    if b=true then te σ2 H3 fun y H4=>∃ (z:Str) (l:List Str),y=.str z/\H4 D=some (bY P w' D l)/\l.length+1 < scanBound/\Nx (upd H4 D (bY P w' D (hV z l))) else Nx H3):=by
 refine DD (body:=fun Nx x H'=>g x (wipe σ vs) H' fun σ2 H2=>wipe σ2 vs=wipe σ vs/\tt σ2 H2 fun b H3 =>
    if b=true then te σ2 H3 fun y H4=>∃ (z:Str) (l:List Str),y=.str z/\H4 D=some (bY P w' D l)/\l.length+1 < scanBound/\Nx (upd H4 D (bY P w' D (hV z l))) else Nx H3) w (fun i H2=>SB [D] H H2/\∃ us,H2 D=some (bY P w' D us)/\R i us H2/\us.length<=i) ⟨SB.new hD _,[],Qt,st _ _ _ _ (SB.new hD _) h0,Yc _⟩ (fun i H2 _ h=>hG H2 (h.1.drop hD)) (fun i x H2 H' hi h y=>?_) (fun H2 h=>?_)
 ·obtain ⟨s2,us,aV,hR,hl⟩:=h;refine turn _ i x H2 H' us hi (s2.drop hD) y hR hl (fun z H5 s5 r5=>?_) (fun H4 s4 r4=>⟨s2.trans s4.nil,us,s4.keep _ _ aV aP,r4,by omega⟩);have eQ:=s5.keep _ _ aV aP;have t6:SB [D] H5 (upd H5 D (bY P w' D (hV z us))):=SB.setG eQ (by simp) bY.BM.1 bY.BM.2 _;refine ⟨z,us,Ja,eQ,by omega,(s2.trans s5.nil).trans t6,_,Qt,st _ _ _ _ t6 r5,?_⟩;have:=zdk z us;omega
 ·obtain ⟨s2,us,aV,hR,hl⟩:=h;exact done us H2 (s2.drop hD) aV hR hl
end
def P5 (K:Qn) (C N:Addr):Sp:=fun vs H Q E=>∃ (v:V) (b:Bk) (n:Str),vs=[v,.str n]/\hJ K C H v b/\b.length<=1000/\(∀ k ∈ b,k.rs.length<=1000) /\
 Fw N b n H E fun k=>∀ (l:Addr) (us:List V) (H':Hp),SB [] H H'->H l=none->H' l=some (.lst us)->Bears K H' Ru.enc us ((.nil,.nil)::k.rs)->Q (.ref l) H'
section
variable {M:Model} {A:Around} {E:Value->Shared->Prop} {s:Shared} {env:Env}
theorem zg3 {func:Expr} {args:List Expr} {kws:List Keyword} {pos:Pos} {Q:Value->Shared->Prop}
  (h:wpAny M A (eval func env) (fun f s₁=>wpAny M A (callWith pos f [] (backTo pos (starEach args env)) (backToKw pos (keywordEach kws env))) Q E s₁) E s)
  (he:eval (.Call func args kws pos) env=(do callWith pos (<- eval func env) [] (backTo pos (starEach args env)) (backToKw pos (keywordEach kws env))):=by rfl) :
  wpAny M A (eval (.Call func args kws pos) env) Q E s:=by
 rw [he]; exact Ke h
theorem z7j {pos:Pos} {T:String} {rest:List Expr} {kws:List Keyword} {Q:Value->Shared->Prop}
  (h:wpAny M A (spliced (backTo pos (starEach (e::rest) env))) (fun vs s₁=>wpAny M A (evalAll ((backToKw pos (keywordEach kws env)).map (·.2)))
   (fun aS s₂=>wpAny M A (call (.type T) vs (((backToKw pos (keywordEach kws env)).filterMap (·.1)).zip aS)) Q E s₂) E s₁) E s)
  (he:starEach (e::rest) env=(false,eval e env)::starEach rest env)
  (DT:(backTo pos (starEach rest env)).any (·.1)=false)
  (oh:(backToKw pos (keywordEach kws env)).all (·.1.isSome)=true)
  (AY:(backToKw pos (keywordEach kws env)).any (·.1.isNone)=false) :
  wpAny M A (callWith pos (.type T) [] (backTo pos (starEach (e::rest) env)) (backToKw pos (keywordEach kws env))) Q E s:=by
 rw [he] at h ⊢;have h2:(backTo pos ((false,eval e env)::starEach rest env)).any (·.1)=false:=by
  show (false || (backTo pos (starEach rest env)).any (·.1))=false;rw [DT]; rfl
 have h3:backTo pos ((false,eval e env)::starEach rest env)=(false,eval e env)::backTo pos (starEach rest env):=rfl;rw [h3] at h h2 ⊢;unfold callWith;refine Ke (wpAny_holding (wpAny_mono (evalArgs_kwB (Q:=fun a s₁=>wpAny M A (call (.type T) ([]++a.pos) a.kw) Q E s₁) oh h) (fun a s₁ h₁=>Ke (wpAny_standAt ?_)) fun _ _ x=>x));simp only [h2,AY,Bool.or_false];refine Ke (wpAny_pure ?_);exact Ke (wpAny_mono h₁ (fun r s₂ hr=>Ke (wpAny_holding (wpAny_point (wpAny_pure hr)))) fun _ _ x=>x)
end
def ER (K:Qn) (a:Addr):It :=
 ⟨fun i H=>∃ (xs:List V) (x:V),SqL K H a xs/\xs[i]?=some x,
  fun i H v H2=>∃ T x,v=.ref T/\H T=none/\H2=upd H T (.tup [.int ((i+1:Nat):Int),x])/\∀ xs,SqL K H a xs->xs[i]?=some x,
  fun i H=>∃ xs:List V,SqL K H a xs/\xs.length=i⟩
theorem zbj {w:World} (a e it:Addr) (Eg:e ≠ it) (KI:a ≠ it) (SV:e ≠ a) :
  Turn P w K (.Tuple elts kk xZ) (ER K a) [e,it] e (fun i h=>(∃ old,IsEnum h e it ((i+1:Nat):Int) old)/\h.IsListIter it a i) where
 mem:=by simp
 obj:=fun i h st b hb=>by
  obtain ⟨⟨old,he⟩,o,ho,hc,hd⟩:=st;rcases (show b=e\/b=it by simpa using hb) with z | z
  ·rw [z]; exact ⟨_,he,fun v q=>nomatch q⟩
  ·rw [z]; exact ⟨o,ho,fun v q=>by rw [hd] at q; cases q⟩
 keep:=fun i h h2 st k=>let ⟨⟨old,he⟩,hi⟩:=st; ⟨⟨old,k e (by simp) _ he⟩,hi.at fun o q=>k it (by simp) o q⟩
 item:=by
  intro X hP hw hK hc i pins s σ H E I hf st hg;subst hP hw hK;obtain ⟨⟨old,he⟩,hit⟩:=st;obtain ⟨xs,x,hq,hx⟩:=hg;obtain ⟨cf,rv,p,hz⟩:=I.list hq;obtain ⟨u,hu,ru⟩:=rv.get hx;have BZ:e < s.heap.objs.size:=Heap.lt_size he;have SA:it < s.heap.objs.size:=by obtain ⟨_,z,_⟩:=hit; exact Heap.lt_size z
  have Dr:=Draws.list (prog:=X.prog) (w:=X.w) (A:=X.A.in1) (I.ok.hd hc) it a KI cf.toArray;have dZ:i < cf.toArray.size:=by
   have:=(Kq hu).1;simpa using this
  refine wpAny_pyNext_enum_itemC Dr he ⟨hit,p.isList⟩ dZ Eg (by simp [Eg,SV]) fun y h2 tk hy ho jB hT oL hk=>?_;have RX:y=u:=by
   have h3:cf[i]?=some y:=by simpa using hy
   rw [hu] at h3; exact (Yd h3).symm
  subst RX;refine ⟨_,rfl,wpAny_letOwnedTupleGo_enum (s:={ s with heap:=h2,toks:=tk+1 }) ho fun h3 yN sb=>?_⟩;have sG:h3.get? s.heap.objs.size=some { cls:=.type "tuple",data:=.seq #[.int ((i+1:Nat):Int) tk,y] }:=(sb.2 _ (Nat.ne_of_gt BZ)).trans hT;have nw:ObjOk X.prog X.w (upd H s.heap.objs.size (.tup [.int ((i+1:Nat):Int),x])) h3 s.heap.objs.size (.tup [.int ((i+1:Nat):Int),x]):=⟨dY,[.int ((i+1:Nat):Int) tk,y],.cons ⟨_,rfl⟩ (.cons ru .nil),⟨_,sG,rfl,_,rfl⟩⟩;have I1:Inv X pins σ (upd H s.heap.objs.size (.tup [.int ((i+1:Nat):Int),x])) { s with heap:=h3,toks:=tk+1 }:=I.turnedNew (ch:=[e,it]) (fun b ob hb z=>(sb.2 b (fun y=>hb (by simp [y]))).trans (hk b ob (fun y=>hb (by simp [y])) (fun y=>hb (by simp [y])) z)) hf (Yc _) nw;refine ⟨.ref s.heap.objs.size,_,I1,Ja,⟨_,x,Ja,I.hok.fresh (Yc _),Ja,fun ys hy=>by rw [I.list_inj hy hq]; exact hx⟩,⟨⟨y,?_⟩,jB.1.at fun o q=>(sb.2 it (Ne.symm Eg)).trans q⟩,fun b hb=>?_⟩
  ·rw [show ((i+1+1:Nat):Int)=((i+1:Nat):Int)+1 by omega]; exact yN
  ·have bS:b < s.heap.objs.size:=by
    rcases (show b=e\/b=it by simpa using hb) with z | z
    ·rw [z]; exact BZ
    ·rw [z]; exact SA
   rw [upd_ne (Nat.ne_of_lt bS)]; exact (hf b hb).1
 done:=by
  intro X hP hw hK hc i pins s σ H E I hf st hg;subst hP hw hK;obtain ⟨⟨old,he⟩,hit⟩:=st;obtain ⟨xs,hq,hx⟩:=hg;obtain ⟨cf,rv,p,hz⟩:=I.list hq;obtain ⟨f0,f1,f2,f3,f4,f5⟩:=hf it (by simp);have hl:=rv.length;have Dr:=Draws.list (prog:=X.prog) (w:=X.w) (A:=X.A.in1) (I.ok.hd hc) it a KI cf.toArray;have hn:cf.toArray.size=i:=by simp; omega
  refine wpAny_pyNext_enum_endD Dr he ⟨by rw [hn]; exact hit,p.isList⟩ fun h2 eb=>⟨rfl,I.turned (t':=s.toks) (fun b o hb z=>eb b o hb z) f0 f1 f3 f4 f5⟩
 self:=fun A i s Q E st h=>let ⟨⟨_,he⟩,_⟩:=st; wpAny_pyIter_enum he h
def zil (K:Qn) (te:TE):TI:=fun σ H R=>te σ H fun v H1=>∃ a xs,v=.ref a/\SqL K H1 a xs/\R (ER K a) H1
theorem zdt {X:Cx} {ex:Expr} {te:TE} {p pos kp cp:Pos} {ck:Nat} (hg:Gl X "enumerate") (hm:X.mg "enumerate"=none) (he:PE X ex te) (hs:starEach [ex] X.env=(false,eval ex X.env)::starEach [] X.env:=by rfl) :
  PI X (.Tuple elts kk xZ) (.Call (.Name "enumerate" p) [ex] [⟨some "start",.Constant (.int 1) ck cp,kp⟩] pos) (zil X.K te):=by
 refine ⟨fun pins s σ H R I h=>?_⟩;refine zg3 (ld_blt I hg hm boot_enumerate (z7j (args_cons (thn (he.run pins s σ H _ I h) fun u s1 ⟨v,H1,I1,r1,q1⟩=>args_nil ?_) hs) hs rfl rfl rfl));obtain ⟨a,xs,ev,hq,q⟩:=q1;subst ev;cases r1;refine kws_cons (thn ((pe_int (X:=X) (i:=1) (j:=ck) (pos:=cp)).run pins s1 σ H1 (fun v H2=>v=.int 1/\H2=H1) I1 ⟨rfl,Ja⟩) fun u s2 ⟨v,H2,I2,r2,q2⟩=>kws_nil ?_);obtain ⟨rfl,rfl⟩:=q2;obtain ⟨t,rfl⟩:∃ t,u=.int 1 t:=r2;obtain ⟨cf,rv,pt,hz⟩:=I2.list hq;have ht:s2.heap.IsList a cf.toArray:=pt.isList;have oR:a < s2.heap.objs.size:=by obtain ⟨_,z,_⟩:=ht; exact Heap.lt_size z
 show wpAny _ _ (call (.type "enumerate") [.ref a] [(Str.ofString "start",.int 1 t)]) _ _ _;refine enum_begins_start (begins_list a cf.toArray) ht (by decide) (by decide) fun h2 qY hit oL hk=>wpAny_pyIter_enum qY ?_;have I3:Inv X pins σ H2 { s2 with heap:=h2 }:=I2.kept (t':=s2.toks) hk;refine ⟨s2.heap.objs.size+1,[s2.heap.objs.size+1,s2.heap.objs.size],_,_,H2,Ja,I3,zbj a (s2.heap.objs.size+1) s2.heap.objs.size (Nat.succ_ne_self _) (Nat.ne_of_lt oR) (Nat.ne_of_gt (Nat.lt_succ_of_lt oR)),⟨⟨.none,qY⟩,⟨_,hit,Ja,Ja⟩⟩,fun b hb=>?_,q⟩;have hle:s2.heap.objs.size<=b:=by
  rcases (show b=s2.heap.objs.size+1\/b=s2.heap.objs.size by simpa using hb) with z | z
  ·rw [z]; exact Nat.le_add_right _ _
  ·rw [z]; exact Yc _
 exact I2.fpOk hle (I2.hok.fresh hle)
theorem zbg:Walk (ER K a) xs.length (fun H=>SqL K H a xs) (YPair (fun i=>some (.int ((i+1:Nat):Int))) (fun i=>xs[i]?)):=by
 refine ⟨fun i _ hi q=>⟨xs,xs[i],q,by simp [hi]⟩,fun _ q=>⟨xs,q,Ja⟩,fun i H v H2 _ q y=>?_⟩;obtain ⟨T,x,h1,h2,h3,h4⟩:=y;exact ⟨T,.int ((i+1:Nat):Int),x,h1,h2,h3,Ja,h4 xs q⟩
namespace Gr
def ak:Gr->Nat->List (Pl × Str)
 | .nil,_=>[]
 | .cons k g _ r,i=>(([i],k)::(g.ak 0).map fun x=>(i::x.1,x.2))++r.ak (i+1)
def Cw (p:Tr × Int) (i:Nat):List (Pl × Str):=([i],p.1.1)::(p.1.2.ak 0).map fun x=>(i::x.1,x.2)
def aks:List (Tr × Int)->Nat->List (Pl × Str)
 | [],_=>[]
 | p::r,i=>Cw p i++aks r (i+1)
theorem zu:∀ (g:Gr) (i:Nat),g.ak i=aks g.ps i
 | .nil,_=>rfl
 | .cons k g m r,i=>by show _++r.ak (i+1)=_++aks r.ps (i+1); rw [zu r]; rfl
theorem jr:∀ (as bs:List (Tr × Int)) (i:Nat),aks (as++bs) i=aks as i++aks bs (i+as.length)
 | [],bs,i=>by simp [aks]
 | p::r,bs,i=>by
  show Cw p i++aks (r++bs) (i+1)=_;rw [jr r bs (i+1)];show _=(Cw p i++aks r (i+1))++aks bs (i+(r.length+1));rw [List.append_assoc,show i+1+r.length=i+(r.length+1) by omega]
theorem sR {p:Tr × Int} (h:bs[i]?=some p):aks (bs.take (i+1)) 0=aks (bs.take i) 0++Cw p i:=by
 have hl:i < bs.length:=(Kq h).1;rw [Yg,h,jr,Kx,Nat.min_eq_left (by omega),Nat.zero_add];show _++(Cw p i++[])=_;rw [Kz]
theorem j3:∀ (g:Gr) (i:Nat),(g.ak i).map (·.2)=g.within.map (·.1.1)
 | .nil,_=>rfl
 | .cons k g m r,i=>by
  have h1:=j3 g 0;have h2:=j3 r (i+1);show ((([i],k)::(g.ak 0).map fun x=>(i::x.1,x.2))++r.ak (i+1)).map (·.2)=(((k,g),m)::(g.within++r.within)).map (·.1.1);rw [Yj,Ky,List.map_map,h2,Ky,Yj,<- h1]
  rfl
theorem nh (g:Gr) (i:Nat):(g.ak i).length=g.parts:=by
 have:=congrArg List.length (j3 g i);rw [Ye,Ye,bK] at this;exact this
theorem qO:∀ (g:Gr) (i:Nat),∀ x ∈ g.ak i,x.1.length<=g.deep
 | .nil,_,x,h=>by cases h
 | .cons k g m r,i,x,h=>by
  have h1:=qO g 0;have h2:=qO r (i+1);show x.1.length<=max (1+g.deep) r.deep;rcases Qw h with h | h
  ·rcases Qv h with h | h
   ·rw [h]; show 1<=_; omega
   ·obtain ⟨q,hq,rfl⟩:=Qx h;have:=h1 q hq;show q.1.length+1<=_; omega
  ·have:=h2 x h; omega
theorem AH {a b:Str} {g:Gr} {os:List (Option Int)} (h:os ≠ []):lk (a,g) os=lk (b,g) os:=by
 cases os with
 | nil=>exact absurd rfl h
 | cons o r=>rfl
theorem zw {G:Gr}:∀ (g:Gr) (i:Nat),G.ps.drop i=g.ps->∀ x ∈ g.ak i,ik x.1 ≠ []/\∃ t:Tr,lk ("",G) (ik x.1)=some t/\t.1=x.2
 | .nil,_,_,x,h=>by cases h
 | .cons k g m r,i,hd,x,h=>by
  have Af:G.ps.drop i=((k,g),m)::r.ps:=hd;have hi:G.ps[i]?=some ((k,g),m):=by
   have:=congrArg (·[0]?) Af;simpa using this
  have hs:stp G (some ((i:Nat):Int))=some (k,g):=by
   show (if (0:Int)<=((i:Nat):Int) then (G.ps[((i:Nat):Int).toNat]?).map (·.1) else none)=_;rw [if_pos (by omega),Int.toNat_natCast,hi]; rfl
  rcases Qw h with h | h
  ·rcases Qv h with h | h
   ·rw [h];refine ⟨by simp [ik],(k,g),?_,Ja⟩;show (stp G (some ((i:Nat):Int))).bind _=_;rw [hs]; rfl
   ·obtain ⟨q,hq,rfl⟩:=Qx h;obtain ⟨n1,t,e1,e2⟩:=zw (G:=g) g 0 rfl q hq;refine ⟨by simp [ik],t,?_,e2⟩;show (stp G (some ((i:Nat):Int))).bind (fun u=>lk u (ik q.1))=_;rw [hs];show lk (k,g) (ik q.1)=some t;rw [AH (b:="") n1,e1]
  ·refine zw r (i+1) ?_ x h;rw [<- List.drop_drop,Af]; rfl
theorem zv (g:Gr):∀ x ∈ g.ak 0,ik x.1 ≠ []/\∃ t:Tr,lk ("",g) (ik x.1)=some t/\t.1=x.2:=zw g 0 rfl
theorem ew:∀ g:Gr,g.deep<=g.parts
 | .nil=>Yc _
 | .cons k g m r=>by
  have h1:=ew g;have h2:=ew r;show max (1+g.deep) r.deep<=1+g.parts+r.parts;omega
end Gr
def Fu (K:Qn) (n:Nat):Sp:=fun vs H Q _=>∃ (v:V) (g:Gr),vs=[v]/\GA K H v g/\g.deep < n/\g.deep<=100/\g.parts<=1000/\∀ (D:Addr) (us:List V) (H':Hp),SB [] H H'->H D=none->H' D=some (.lst us)->Bears K H' xP us ((g.ak 0).map (·.1))->Q (.ref D) H'
structure Sx where
 n:Str
 i:Nat
 wd:Str
 p:Pl
 k:Str
def Sx.st (s:Sx):PyData:=.tuple [.str s.n,.int (s.i:Int),.str s.wd,xP s.p]
def Sx.enc (s:Sx):PyData:=.tuple [s.st,.str s.k]
theorem Sx.wu (s:Sx):noList s.st=true:=by simp [Sx.st,noList,jw,vX]
theorem Sx.aj (s:Sx):noList s.enc=true:=by simp [Sx.enc,noList,jw,Sx.wu]
def Aq (n:Str) (i:Nat) (wd:Str) (g:Gr):List Sx:=(g.ak 0).map fun x=>⟨n,i,wd,x.1,x.2⟩
def vc (n:Str) (x:Ru × Nat):List Sx:=Aq n x.2 "once" x.1.1++Aq n x.2 "each" x.1.2
def Kd.steps (k:Kd):List Sx:=(k.rs.zipIdx 1).flatMap (vc k.n)
def mE (rs:List Ru):List Str:=rs.flatMap fun r=>r.within.map (·.1.1)
theorem Xq (n:Str) (i:Nat) (wd:Str) (g:Gr):(Aq n i wd g).map (·.k)=g.within.map (·.1.1):=by
 unfold Aq;rw [List.map_map,<- Gr.j3 g 0]; rfl
theorem FD (n:Str) (i:Nat) (wd:Str) (g:Gr):(Aq n i wd g).length=g.parts:=by
 unfold Aq;rw [Ye,Gr.nh]
theorem zby (n:Str) (x:Ru × Nat):(vc n x).map (·.k)=x.1.within.map (·.1.1):=by
 unfold vc Ru.within;rw [Yj,Yj,Xq,Xq]
theorem zfs (n:Str) (x:Ru × Nat):(vc n x).length=x.1.1.parts+x.1.2.parts:=by
 unfold vc;rw [Yf,FD,FD]
theorem Xv (n:Str):∀ (rs:List Ru) (i:Nat),((rs.zipIdx i).flatMap (vc n)).map (·.k)=mE rs
 | [],_=>rfl
 | r::rs,i=>by
  rw [List.zipIdx_cons,List.flatMap_cons,Yj,Xv n rs (i+1),zby]
  rfl
theorem Kd.rM (k:Kd):k.steps.map (·.k)=mE k.rs:=Xv _ _ _
theorem VE (n:Str):∀ (xs:List (Ru × Nat)),(∀ x ∈ xs,x.1.1.parts+x.1.2.parts<=4)->(xs.flatMap (vc n)).length<=4*xs.length
 | [],_=>Yc _
 | x::xs,h=>by
  have h1:=VE n xs fun y hy=>h y (bR _ hy);have h2:=h x bM;rw [List.flatMap_cons,Yf,zfs,Yk];omega
theorem Kd.oA {k:Kd} (h4:k.rs.length<=4) (h:∀ r ∈ k.rs,dV r):k.steps.length<=16:=by
 have:=VE k.n (k.rs.zipIdx 1) fun x hx=>(h x.1 (by
  have:=List.mem_zipIdx hx;rw [this.2.2]; exact List.getElem_mem _)).2.2
 rw [List.length_zipIdx] at this;show ((k.rs.zipIdx 1).flatMap (vc k.n)).length<=16;omega
def Xn (K:Qn):Sp:=fun vs H Q _=>∃ (n wd:Str) (i:Nat) (v:V) (g:Gr),vs=[.str n,.int (i:Int),.str wd,v]/\GA K H v g/\g.deep < 20/\g.parts<=60/\∀ (l:Addr) (us:List V) (H':Hp),SB [] H H'->H l=none->H' l=some (.lst us)->Bears K H' Sx.enc us (Aq n i wd g)->Q (.ref l) H'
def W0 (K:Qn) (C N:Addr):Sp:=fun vs H Q E=>∃ (v:V) (b:Bk) (n:Str),vs=[v,.str n]/\hJ K C H v b/\b.Ok /\
 Fw N b n H E fun k=>∀ (l:Addr) (us:List V) (H':Hp),SB [] H H'->H l=none->H' l=some (.lst us)->Bears K H' Sx.enc us k.steps->Q (.ref l) H'
structure SrtOf (ss ks:List Str):Prop where
 srt:sortedS ss=true
 nd:ss.Nodup
 mem:∀ x,x ∈ ss ↔ x ∈ ks
theorem Xt {x:Str} {l:List Str} (h:l.Nodup):(hV x l).Nodup:=by
 unfold hV
 split
 ·exact h
 ·rename_i hx;exact List.nodup_cons.mpr ⟨hx,h⟩
theorem SrtOf.perm {ss l ks:List Str} (pm:ss.Perm l) (s:sortedS ss=true) (nd:l.Nodup) (h:∀ x,x ∈ l ↔ x ∈ ks):SrtOf ss ks :=
 ⟨s,pm.nodup_iff.mpr nd,fun x=>pm.mem_iff.trans (h x)⟩
def PD (K:Qn) (C N:Addr):Sp:=fun vs H Q E=>∃ (v:V) (b:Bk) (n:Str),vs=[v,.str n]/\hJ K C H v b/\b.Ok /\
 Fw N b n H E fun k=>∀ (l:Addr) (ss:List Str) (H':Hp),SB [] H H'->H l=none->H' l=some (.lst (ss.map V.str))->SrtOf ss (mE k.rs)->Q (.ref l) H'
theorem Bk.Ok.led (ok:b.Ok) {k:Kd} (hk:k ∈ b):∀ x ∈ mE k.rs,x ∈ b.names:=fun x hx=>by
 obtain ⟨r,hr,hx⟩:=List.mem_flatMap.mp hx;obtain ⟨p,hp,rfl⟩:=Qx hx;exact ((ok.kd k hk).2.2 r hr).2 p hp
theorem Bk.Ok.names {b:Bk} (ok:b.Ok):∀ x ∈ b.names,dE x:=fun x hx=>by
 obtain ⟨k,hk,rfl⟩:=Qx hx;exact (ok.kd k hk).1
def NQ (K:Qn) (x:Addr):Bool:=match K.lookup x with
 | some o=>(match o.cls,o.data with
  | .type t,.seq cf _=>decide (t="tuple")&&decide (cf.toList.length=0)
  | _,_=>false)
 | none=>false
def no2B (K:Qn) (a:Addr):Bool:=match K.lookup a with
 | some o=>(match o.cls,o.data with
  | .type t,.seq cf _=>decide (t="tuple")&&(match cf.toList with
   | [.ref x,.ref y]=>NQ K x&&NQ K y
   | _=>false)
  | _,_=>false)
 | none=>false
theorem Xc {x:Addr} (h:NQ K x=true) (H:Hp):SqT K H x []:=by
 unfold NQ at h
 split at h
 ·rename_i o ho
  split at h
  ·rename_i t cf n hc hd;rw [Bool.and_eq_true,decide_eq_true_eq,decide_eq_true_eq] at h;have hz:cf.size=0:=by simpa using h.2
   have he:cf.toList=[]:=List.length_eq_zero_iff.mp h.2;refine .inr ⟨o,cf,n,ho,by rw [hc,h.1],hd,by rw [hz]; exact Nat.zero_le _,by rw [he]; exact .nil⟩
  ·cases h
 ·cases h
theorem zfp (h:no2B K a=true) (H:Hp):Dp K H (.ref a) (Ru.enc (.nil,.nil)):=by
 unfold no2B at h
 split at h
 ·rename_i o ho
  split at h
  ·rename_i t cf n hc hd;rw [Bool.and_eq_true,decide_eq_true_eq] at h;obtain ⟨h1,h2⟩:=h
   split at h2
   ·rename_i x y he;rw [Bool.and_eq_true] at h2;have hz:cf.size=2:=by have:=congrArg List.length he; simpa using this
    have hs:SqT K H a [.ref x,.ref y]:=.inr ⟨o,cf,n,ho,by rw [hc,h1],hd,by rw [hz]; decide,by rw [he]; exact .cons rfl (.cons rfl .nil)⟩;exact .tup hs (.cons (.tup (Xc h2.1 H) .nil) (.cons (.tup (Xc h2.2 H) .nil) .nil))
   ·cases h2
  ·cases h
 ·cases h
namespace Gr
theorem mZ (g:Gr):PyData.eqv g.enc (.tuple [])=decide (g=.nil):=by
 cases g with
 | nil=>simp [enc,encs,PyData.eqv,PyData.eqvAll]
 | cons k g m r=>simp [enc,encs,PyData.eqv,PyData.eqvAll]
end Gr
section
variable {σ:L2.St} {H:Hp} {t:TE} {ta tb:TE} {as:TA}
theorem GK {Q:List V->Hp->Prop} (h:t σ H fun x H1=>as σ H1 fun xs H2=>Q (x::xs) H2):tCons t as σ H Q:=h
end
section
variable {X:Cx}
theorem zcu {y:PySem.Str} {py:Pos} {kx vx tg iter:Expr} {ifs:List Expr} {scope:Scope} {own:List (PySem.Str × Nat)} {pos IC:Pos} {wi:TI} {g:TG} {tt:TT} {tk tv:TE} (hc:X.calm=true) (hN:X.N.Nodup) (hy:X.N[i]?=some y) (YQ:X.env.scope.names.lookup y=some .local)
  (hsw:swapsWith (.DictComp kx vx [⟨tg,iter,ifs,0⟩] scope pos) (some (.Name y py)) IC.line X.env=pure true) (hi:PI X tg iter wi) (ok:BlkOk X.N X.env.scope scope own)
  (hg:∀ (s:Shared) (H:Hp) (C:Addr) (cl:List (PySem.Str × Addr)) (fp:List Addr),L2.PG (X.blk s H scope (compEnvC scope cl C X.env) fp) tg g) (ht:∀ (s:Shared) (H:Hp) (C:Addr) (cl:List (PySem.Str × Addr)) (fp:List Addr),L2.PTs (X.blk s H scope (compEnvC scope cl C X.env) fp) ifs tt)
  (hk:∀ (s:Shared) (H:Hp) (C:Addr) (cl:List (PySem.Str × Addr)) (fp:List Addr),L2.PE (X.blk s H scope (compEnvC scope cl C X.env) fp) kx tk)
  (he:∀ (s:Shared) (H:Hp) (C:Addr) (cl:List (PySem.Str × Addr)) (fp:List Addr),L2.PE (X.blk s H scope (compEnvC scope cl C X.env) fp) vx tv) (hs:∀ x,foldedSetIterable iter X.env x=pure x:=by intro _; rfl) :
  PS X (.Assign [.Name y py] (.DictComp kx vx [⟨tg,iter,ifs,0⟩] scope pos) IC) (tAsg (tDc wi g tt tk tv (own.map (·.2))) (gName i)):=by
 refine ⟨fun pins s σ H D I h=>?_⟩;rw [exec_Assign_Name_used _ _ _ _ hsw];refine Ke (wpAny_standAt (Ke ?_));show wpAny _ X.A (do let _ <- comprehension (.DictComp kx vx [⟨tg,iter,ifs,0⟩] scope pos) scope X.env (firstIterPos [⟨tg,iter,ifs,0⟩] pos) newDict false (eval iter X.env) (some (assign (.Name y py) X.env))) _ _ s;have h:tDc wi g tt tk tv (own.map (·.2)) σ H (fun x H1=>gName i x σ H1 D.nx):=h;refine Ke (thn (dc_core (Qf:=fun _ s'=>SP X pins D .next s') hc hN I hi ok hg ht hk he hs h fun L C s' m H' I' q hn f=>?_) fun _ s' hq=>wpAny_pure (wpAny_pure hq));show wpAny _ _ (assign (.Name y py) X.env (.ref L)) _ _ _;refine wpAny_assign_Name (store_ok2 (v:=V.ref L) I' hN hy (.inl YQ) rfl (fun s2 I2 ⟨a,sb,ha⟩=>?_) (.inr YQ));obtain ⟨f0,f1,f2,f3,f4,f5⟩:=f;have haC:C ≠ a:=by
  rcases ha with z | z
  ·rw [z]; exact f1
  ·exact fun e=>f4 y a z e.symm
 refine ⟨m,hn.sameBut sb haC,fun h3 sb3=>?_⟩;exact ⟨_,H',I2.turned (t':=s2.toks) (fun b o hb e=>(sb3.2 b hb).trans e) f0 f1 f3 f4 f5,q⟩
theorem zcx {kx vx:Expr} {gs:List Comprehension} {scope:Scope} {pos py:Pos} {y:PySem.Str} {l:Nat} {env:Env} (hk:env.scope.kind=.function) (hy:env.scope.names.lookup y=some .local) (hl:(py.line == pos.line)=true)
  (ha:(scope.names.any fun (n,k)=>n == y&&(k == .local || k == .cell))=false):swapsWith (.DictComp kx vx gs scope pos) (some (.Name y py)) l env=pure true:=by
 have ky:env.kindOf y=some .local:=hy;have hb:env.blockKind=.function:=by unfold Env.blockKind; rw [hk]; rfl
 unfold swapsWith;simp only [hb,ky,ha,Expr.pos,hl]
 rfl
end
def adj (b:Bk) (n:Str):List Str:=match b.get n with
 | some k=>mE k.rs
 | none=>[]
inductive EndK (b:Bk):Str->Prop
 | mk {n:Str}:(∀ k,k ∈ adj b n->EndK b k)->EndK b n
inductive Rch (b:Bk):Str->Str->Prop
 | one {n k:Str}:k ∈ adj b n->Rch b n k
 | step {n m k:Str}:Rch b n m->k ∈ adj b m->Rch b n k
section
variable {b:Bk}
theorem zfd {n:Str} {k:Kd} (h:b.get n=some k):adj b n=mE k.rs:=by unfold adj; rw [h]
theorem CW (ok:b.Ok) {n k:Str} (h:k ∈ adj b n):k ∈ b.names:=by
 unfold adj at h
 split at h
 ·rename_i kd e;exact ok.led (Bk.get_some e).1 k h
 ·cases h
theorem Bz {k:Kd} (ok:b.Ok) (hk:k ∈ b):adj b k.n=mE k.rs:=zfd (Bk.gQ ok.nd hk)
theorem Rch.trans {n m k:Str} (h:Rch b n m) (g:Rch b m k):Rch b n k:=by
 induction g with
 | one e=>exact .step h e
 | step _ e ih=>exact .step ih e
theorem Rch.cons {n m k:Str} (h:m ∈ adj b n) (g:Rch b m k):Rch b n k:=(Rch.one h).trans g
theorem Rch.split {n k:Str} (h:Rch b n k):∃ m,m ∈ adj b n/\(m=k\/Rch b m k):=by
 induction h with
 | one e=>exact ⟨_,e,.inl rfl⟩
 | step _ e ih =>
  obtain ⟨m,hm,h⟩:=ih;refine ⟨m,hm,.inr ?_⟩;rcases h with h | h
  ·rw [h]; exact .one e
  ·exact .step h e
theorem EndK.next {n k:Str} (h:EndK b n) (e:k ∈ adj b n):EndK b k:=by
 cases h with
 | mk h=>exact h k e
theorem EndK.uj {n:Str} (h:EndK b n):¬ Rch b n n:=by
 induction h with
 | mk h ih =>
  intro g;obtain ⟨m,hm,e⟩:=g.split;refine ih m hm ?_;rcases e with e | e
  ·rw [e]; exact g
  ·exact .step e hm
end
inductive LedAll (K:Qn) (H:Hp):List (Key × V)->Bk->Prop
 | nil:LedAll K H [] []
 | cons {l:Addr} {ss:List Str} {k:Kd} {aS:List (Key × V)} {b:Bk}:H l=some (.lst (ss.map V.str))->SrtOf ss (mE k.rs)->LedAll K H aS b->LedAll K H ((Sum.inr k.n,.ref l)::aS) (k::b)
section
variable {K:Qn} {H H':Hp}
theorem LedAll.length:∀ {aS:List (Key × V)} {b:Bk},LedAll K H aS b->aS.length=b.length
 | _,_,.nil=>rfl
 | _,_,.cons _ _ t=>congrArg (·+1) t.length
theorem LedAll.keep (h:∀ l xs,H l=some (.lst xs)->H' l=some (.lst xs)):∀ {aS:List (Key × V)} {b:Bk},LedAll K H aS b->LedAll K H' aS b
 | _,_,.nil=>.nil
 | _,_,.cons a s t=>.cons (h _ _ a) s (LedAll.keep h t)
theorem LedAll.append:∀ {aS kws:List (Key × V)} {b c:Bk},LedAll K H aS b->LedAll K H kws c->LedAll K H (aS++kws) (b++c)
 | _,_,_,_,.nil,h=>h
 | _,_,_,_,.cons a s t,h=>.cons a s (t.append h)
theorem LedAll.val {n:Str} {k:Kd}:∀ {aS:List (Key × V)} {b:Bk},LedAll K H aS b->b.get n=some k->∃ l ss,valV aS (Sum.inr n)=some (.ref l)/\H l=some (.lst (ss.map V.str))/\SrtOf ss (mE k.rs)
 | _,_,.nil,e=>by simp [Bk.get] at e
 | _,_,.cons (l:=l) (ss:=ss) (k:=kk) (b:=bb) a s t,e=>by
  by_cases h:kk.n=n
  ·have e':kk=k:=by
    have:Bk.get (kk::bb) n=some kk:=by simp [Bk.get,h]
    rw [this] at e; exact Yd e
   subst e';exact ⟨l,ss,valV_pos (by rw [h]),a,s⟩
  ·have e':Bk.get bb n=some k:=by
    unfold Bk.get at e;rw [List.find?_cons_of_neg (by simpa using h)] at e;exact e
   obtain ⟨l',Ar,h1,h2,h3⟩:=t.val e';exact ⟨l',Ar,by rw [valV_neg (fun z=>h (Sum.inr.inj z))]; exact h1,h2,h3⟩
theorem LedAll.get:∀ {aS:List (Key × V)} {b:Bk} {i:Nat} {p:Key × V},LedAll K H aS b->aS[i]?=some p->∃ k,b[i]?=some k/\p.1=Sum.inr k.n
 | _,_,_,_,.nil,e=>by simp at e
 | _,_,0,_,.cons a s t,e=>by
  obtain rfl:=Yd e;exact ⟨_,Ja,Ja⟩
 | _,_,i+1,_,.cons a s t,e=>t.get (i:=i) e
end
def into (b:Bk) (es:List Str) (n:Str):Bool:=decide (n ∉ es)&&(adj b n).all fun k=>decide (k ∈ es)
def Xr (K:Qn):Sp:=fun vs H Q _=>∃ (d e:Addr) (b:Bk) (es:List Str) (aS:List (Key × V)),vs=[.ref d,.ref e]/\H d=some (.dK aS)/\LedAll K H aS b/\H e=some (.lst (es.map V.str))/\b.Ok/\∀ (l:Addr) (H':Hp),SB [] H H'->H l=none->H' l=some (.lst ((b.names.filter (into b es)).map V.str))->Q (.ref l) H'
def Xa (K:Qn) (C N:Addr):Sp:=fun vs H Q E=>∃ (v:V) (b:Bk),vs=[v]/\hJ K C H v b/\b.Ok/\∀ (l:Addr) (ss:List Str) (H':Hp),SB [] H H'->H l=none->H' l=some (.lst (ss.map V.str))->sortedS ss=true->ss.Nodup->(∀ n,n ∈ ss ↔ n ∈ b.names/\¬ EndK b n)->Q (.ref l) H'
theorem SB.unlock {H':Hp} {od:Obj} {u:HO} (s:SB [] (upd H d (.frz od u)) H') (hd:H d=some u) (n1:∀ xs,u ≠ .tup xs) (n2:∀ o v,u ≠ .frz o v):SB [] H (upd H' d u):=by
 refine ⟨fun b o e _=>?_,fun b xs e=>?_,fun b o v e=>?_,fun b e=>?_⟩
 ·by_cases z:b=d
  ·rw [z,Qt]; rw [z,hd] at e; exact e
  ·rw [upd_ne z]; exact s.keep b o (by rw [upd_ne z]; exact e) aP
 ·have z:b ≠ d:=fun z=>by rw [z,hd] at e; exact n1 _ (Yd e)
  rw [upd_ne z]; exact s.tups b xs (by rw [upd_ne z]; exact e)
 ·have z:b ≠ d:=fun z=>by rw [z,hd] at e; exact n2 _ _ (Yd e)
  rw [upd_ne z]; exact s.frzs b o v (by rw [upd_ne z]; exact e)
 ·have z:b ≠ d:=fun z=>by rw [z,Qt] at e; cases e
  rw [upd_ne z] at e;have:=s.kU b e
  rwa [upd_ne z] at this
theorem zf2 {ss ks:List Str} (so:SrtOf ss ks) (p:Str->Bool):ss.all p=ks.all p:=by
 rw [Bool.eq_iff_iff,List.all_eq_true,List.all_eq_true];exact ⟨fun h x hx=>h x ((so.mem x).mpr hx),fun h x hx=>h x ((so.mem x).mp hx)⟩
theorem zmh {n:Str} (h:L2.Rd H d (.dK aS)) (e:valV aS (Sum.inr n)=some v):DGet H d (.str n) (some v):=.inl ⟨aS,Sum.inr n,h,rfl,e.symm⟩
theorem LedAll.sb {K:Qn} {H H':Hp} {ps:List Addr} (e:SB ps H H'):∀ {aS:List (Key × V)} {b:Bk},LedAll K H aS b->(∀ p ∈ aS,∀ q ∈ ps,p.2 ≠ .ref q)->LedAll K H' aS b
 | _,_,.nil,_=>.nil
 | _,_,.cons a s t,h=>.cons (e.keep _ _ a fun z=>h _ bM _ z rfl) s (LedAll.sb e t fun p hp=>h p (bR _ hp))
theorem LedAll.ne {K:Qn} {H:Hp} {q:Addr} (hq:H q=none):∀ {aS:List (Key × V)} {b:Bk},LedAll K H aS b->∀ p ∈ aS,p.2 ≠ .ref q
 | _,_,.nil,p,hp=>by cases hp
 | _,_,.cons a s t,p,hp=>by
  rcases Qv hp with e | e
  ·rw [e];intro z;rw [V.ref.inj z] at a;rw [a] at hq; cases hq
  ·exact LedAll.ne hq t p e
theorem LedAll.keys {K:Qn} {H:Hp}:∀ {aS:List (Key × V)} {b:Bk},LedAll K H aS b->aS.map (·.1)=b.names.map Sum.inr
 | _,_,.nil=>rfl
 | _,_,.cons a s t=>by rw [Ky,LedAll.keys t]; rfl
theorem zaw (ok:b.Ok) {es:List Str} (h:b.names.filter (into b es)=[]) {n:Str} (e:EndK b n):n ∈ b.names->n ∈ es:=by
 induction e with
 | @mk n _ ih =>
  intro hn;refine Classical.byContradiction fun z=>?_;have:n ∈ b.names.filter (into b es):=List.mem_filter.mpr ⟨hn,by
   unfold into;rw [Bool.and_eq_true,decide_eq_true_eq,List.all_eq_true];exact ⟨z,fun k hk=>Ya (ih k hk (CW ok hk))⟩⟩
  rw [h] at this; cases this
section
variable {J:It} {n:Nat} {G:Hp->Prop} {Y:Nat->Hp->V->Hp->Prop}
theorem zfk (w:Walk J n G Y) {g:TG} {tt:TT} {tk tv:TE} {vs:List Nat} {σ:L2.St} {H:Hp} {D:Addr} {Qd:Hp->Prop} (hD:H D=none) (hn:n < sizeLine) (R:Nat->List (Key × V)->Hp->Prop) (h0:R 0 [] H) (hG:∀ H2,SB [] H H2->G H2)
  (st:∀ i us H2 H3,SB [D] H2 H3->R i us H2->R i us H3)
  (turn:∀ (Pv:Hp->Prop) i x H2 H' aS,i < n->SB [] H H2->Y i H2 x H'->R i aS H2->aS.length<=i->H2 D=some (.dK aS)->(∀ k z H5,SB [] H2 H5->R (i+1) (putK aS k z) H5->∃ aS k',kV k=kV k'/\H5 D=some (.dK aS)/\aS.length < sizeLine/\Pv (upd H5 D (.dK (putK aS k' z)))) ->
   (∀ H4,SB [] H2 H4->R (i+1) aS H4->Pv H4)->g x (wipe σ vs) H' fun σ2 H3=>wipe σ2 vs=wipe σ vs/\tt σ2 H3 fun b H4 =>
    if b=true then tk σ2 H4 fun y H5=>tv σ2 H5 fun z H6=>∃ aS k,y=kV k/\H6 D=some (.dK aS)/\aS.length < sizeLine/\Pv (upd H6 D (.dK (putK aS k z))) else Pv H4)
  (done:∀ aS H2,SB [] H H2->H2 D=some (.dK aS)->R n aS H2->aS.length<=n->Qd H2) :
  ∃ W:Nat->Nat->Hp->Prop,(∃ m,W 0 m (upd H D (.dK [])))/\∀ i m H,W i m H ->
   (J.stop i H/\Qd H)\/(J.go i H/\∃ Nx:Hp->Prop,(∀ H',Nx H'->∃ m',m' < m/\W (i+1) m' H')/\∀ x H',J.yld i H x H'->g x (wipe σ vs) H' fun σ2 H2=>wipe σ2 vs=wipe σ vs/\tt σ2 H2 fun b H3 =>
    if b=true then tk σ2 H3 fun y H4=>tv σ2 H4 fun z H5=>∃ aS k,y=kV k/\H5 D=some (.dK aS)/\aS.length < sizeLine/\Nx (upd H5 D (.dK (putK aS k z))) else Nx H3):=by
 refine DD (body:=fun Nx x H'=>g x (wipe σ vs) H' fun σ2 H2=>wipe σ2 vs=wipe σ vs/\tt σ2 H2 fun b H3 =>
    if b=true then tk σ2 H3 fun y H4=>tv σ2 H4 fun z H5=>∃ aS k,y=kV k/\H5 D=some (.dK aS)/\aS.length < sizeLine/\Nx (upd H5 D (.dK (putK aS k z))) else Nx H3) w (fun i H2=>SB [D] H H2/\∃ aS,H2 D=some (.dK aS)/\R i aS H2/\aS.length<=i)
  ⟨SB.new hD _,[],Qt,st _ _ _ _ (SB.new hD _) h0,Yc _⟩ (fun i H2 _ h=>hG H2 (h.1.drop hD)) (fun i x H2 H' hi h y=>?_) (fun H2 h=>?_)
 ·obtain ⟨s2,aS,aV,hR,hl⟩:=h;refine turn _ i x H2 H' aS hi (s2.drop hD) y hR hl aV (fun k z H5 s5 r5=>?_) (fun H4 s4 r4=>⟨s2.trans s4.nil,aS,s4.keep _ _ aV aP,r4,by omega⟩);have eQ:=s5.keep _ _ aV aP;refine ⟨aS,k,Ja,eQ,by omega,(s2.trans s5.nil).trans (SB.kE eQ (by simp) _),_,Qt,st _ _ _ _ (SB.kE eQ (by simp) _) r5,?_⟩;have:=length_putK aS k z;omega
 ·obtain ⟨s2,aS,aV,hR,hl⟩:=h;exact done aS H2 (s2.drop hD) aV hR hl
end
theorem zaz (nd:b.names.Nodup) {i:Nat} {k:Kd} (ek:b[i]?=some k):k.n ∉ Bk.names (b.take i):=by
 have e:b=b.take i++k::b.drop (i+1):=by
  have hl:i < b.length:=(Kq ek).1;have:=List.drop_eq_getElem_cons hl;rw [(Kq ek).2] at this;rw [<- this,List.take_append_drop]
 have h:b.names=Bk.names (b.take i)++k.n::Bk.names (b.drop (i+1)):=by
  conv=>lhs; rw [e]
  rw [Bk.names,Yj]; rfl
 rw [h] at nd;exact fun z=>(List.nodup_append.mp nd).2.2 _ z _ bM rfl
variable {K:Qn} {H H':Hp}
mutual
theorem Vq (e:∀ a xs,SqT K H a xs->SqT K H' a xs):∀ (d:PyData) (v:V),noList d=true->Dp K H v d->Dp K H' v d
 | .none,_,_,h=>by cases h; exact .non
 | .bool b,_,_,h=>by cases h; exact .bl b
 | .int i,_,_,h=>by cases h; exact .int i
 | .str x,_,_,h=>by cases h; exact .str x
 | .list ds,_,n,_=>by simp [noList] at n
 | .dict ds,_,n,_=>by simp [noList] at n
 | .tuple ds,_,n,h=>by
  cases h with
  | tup hs ha=>exact .tup (e _ _ hs) (Ws e ds _ (by simpa [noList] using n) ha)
theorem Ws (e:∀ a xs,SqT K H a xs->SqT K H' a xs):∀ (ds:List PyData) (vs:List V),jw ds=true->DpAll K H vs ds->DpAll K H' vs ds
 | [],_,_,h=>by cases h; exact .nil
 | d::ds,_,n,h=>by
  cases h with
  | cons h1 h2 =>
   simp [jw] at n;exact .cons (Vq e d _ n.1 h1) (Ws e ds _ n.2 h2)
end
theorem Bears.tp {β:Type} {enc:β->PyData} (e:∀ a xs,SqT K H a xs->SqT K H' a xs) (hn:∀ b,noList (enc b)=true):∀ {xs:List V} {bs:List β},Bears K H enc xs bs->Bears K H' enc xs bs
 | _,_,.nil=>.nil
 | _,_,.cons a b=>.cons (Vq e _ _ (hn _) a) (Bears.tp e hn b)
theorem V4 {D:Addr} {od:Obj} {u:HO} (h:H D=some (.frz od (.dK aS))) (a:Addr) (xs:List V) (s:SqT K H a xs):SqT K (upd H D u) a xs:=by
 rcases s with (s | ⟨o,s⟩) | s
 ·exact .inl (.inl (by rw [upd_ne (fun z=>by rw [z,h] at s; cases s)]; exact s))
 ·exact .inl (.inr ⟨o,by rw [upd_ne (fun z=>by rw [z,h] at s; cases s)]; exact s⟩)
 ·exact .inr s
theorem oq {γ:Type} [DecidableEq γ] (p:γ × Int) (r:List (γ × Int)) (x:γ):sumE (p::r) x=(if p.1=x then p.2 else 0)+sumE r x:=rfl
namespace Gr
def woL (t:Tr) (m:Int):List (Tr × Int)->List (Tr × Int)
 | []=>[]
 | p::r=>if p.1 ≠ t then p::woL t m r else if m < p.2 then (p.1,p.2-m)::woL t m r else woL t m r
theorem lU (t:Tr) (m:Int):∀ as bs:List (Tr × Int),woL t m (as++bs)=woL t m as++woL t m bs
 | [],bs=>rfl
 | p::as,bs=>by
  simp only [List.cons_append,woL,lU t m as bs]
  split
  ·rfl
  ·split <;> rfl
theorem rB {t:Tr} {m:Int}:∀ {bs:List (Tr × Int)},(∀ p ∈ bs,p.1 ≠ t)->woL t m bs=bs
 | [],_=>rfl
 | p::r,h=>by
  rw [woL,if_pos (h p (by simp)),rB fun q hq=>h q (by simp [hq])]
theorem lJ {t:Tr} {m:Int} (hm:0<=m):∀ {bs:List (Tr × Int)} {p:Tr × Int},p ∈ woL t m bs->∃ q ∈ bs,q.1=p.1/\p.2<=q.2/\(1<=q.2->1<=p.2)
 | [],_,h=>nomatch h
 | q::r,p,h=>by
  rw [woL] at h
  split at h
  ·rcases Qv h with e | h
   ·exact ⟨q,by simp,by rw [e],by rw [e]; exact Kw _,by rw [e]; exact id⟩
   ·obtain ⟨q',h1,h2⟩:=lJ hm h; exact ⟨q',by simp [h1],h2⟩
  ·split at h
   ·rcases Qv h with e | h
    ·exact ⟨q,by simp,by rw [e],by rw [e]; show q.2-m<=q.2; omega,by rw [e]; show _->1<=q.2-m; omega⟩
    ·obtain ⟨q',h1,h2⟩:=lJ hm h; exact ⟨q',by simp [h1],h2⟩
   ·obtain ⟨q',h1,h2⟩:=lJ hm h; exact ⟨q',by simp [h1],h2⟩
theorem iU {t:Tr} {m:Int}:∀ {bs:List (Tr × Int)} {p:Tr × Int},p ∈ woL t m bs->∃ q ∈ bs,q.1=p.1
 | [],_,h=>nomatch h
 | q::r,p,h=>by
  rw [woL] at h
  split at h
  ·rcases Qv h with e | h
   ·exact ⟨q,by simp,by rw [e]⟩
   ·obtain ⟨q',h1,h2⟩:=iU h; exact ⟨q',by simp [h1],h2⟩
  ·split at h
   ·rcases Qv h with e | h
    ·exact ⟨q,by simp,by rw [e]⟩
    ·obtain ⟨q',h1,h2⟩:=iU h; exact ⟨q',by simp [h1],h2⟩
   ·obtain ⟨q',h1,h2⟩:=iU h; exact ⟨q',by simp [h1],h2⟩
theorem rA {R:Tr->Tr->Prop} {t:Tr} {m:Int}:∀ {bs:List (Tr × Int)},bs.Pairwise (fun p q=>R p.1 q.1)->(woL t m bs).Pairwise (fun p q=>R p.1 q.1)
 | [],_=>.nil
 | p::r,h=>by
  obtain ⟨h1,h2⟩:=List.pairwise_cons.mp h;have ih:=rA (t:=t) (m:=m) h2;have hk:∀ q ∈ woL t m r,R p.1 q.1:=fun q hq=>by
   obtain ⟨q',qy,e⟩:=iU hq;rw [<- e]; exact h1 q' qy
  rw [woL]
  split
  ·exact List.pairwise_cons.mpr ⟨hk,ih⟩
  ·split
   ·exact List.pairwise_cons.mpr ⟨hk,ih⟩
   ·exact ih
theorem uW (t:Tr) (m:Int):∀ bs:List (Tr × Int),tot (woL t m bs)<=tot bs
 | []=>Yc _
 | p::r=>by
  have ih:=uW t m r;rw [woL]
  split
  ·simp only [tot]; omega
  ·split
   ·simp only [tot]; omega
   ·simp only [tot]; omega
theorem uX (t:Tr) (m:Int):∀ bs:List (Tr × Int),(woL t m bs).length<=bs.length
 | []=>Yc _
 | p::r=>by
  have ih:=uX t m r;rw [woL]
  split
  ·simp only [Yk]; omega
  ·split
   ·simp only [Yk]; omega
   ·simp only [Yk]; omega
theorem rG {t:Tr} {m:Int} (x:Tr):∀ {bs:List (Tr × Int)},bs.Pairwise (fun p q=>p.1 ≠ q.1)->(∀ p ∈ bs,0 < p.2)->0<=m->sumE (woL t m bs) x=if x=t then (if m < sumE bs t then sumE bs t-m else 0) else sumE bs x
 | [],_,_,hm=>by
  show (0:Int)=if x=t then (if m < 0 then 0-m else 0) else 0
  split
  ·rw [if_neg (by omega)]
  ·rfl
 | p::r,h,hp,hm=>by
  obtain ⟨h1,h2⟩:=List.pairwise_cons.mp h;have ih:=rG (t:=t) (m:=m) x h2 (fun q hq=>hp q (by simp [hq])) hm;rw [woL];by_cases e:p.1=t
  ·rw [if_neg (by simpa using e)];have hr:∀ q ∈ r,q.1 ≠ t:=fun q hq z=>h1 q hq (by rw [e,z]);have z0:sumE r t=0:=jt hr;rw [rB hr,oq p r t,if_pos e,z0,Int.add_zero];by_cases dZ:m < p.2
   ·rw [if_pos dZ,if_pos dZ,oq];by_cases hx:x=t
    ·rw [if_pos hx,hx,if_pos (by exact e),z0]; simp
    ·rw [if_neg hx,if_neg (by rw [e]; exact fun z=>hx z.symm),oq,if_neg (by rw [e]; exact fun z=>hx z.symm)]
   ·rw [if_neg dZ,if_neg dZ];by_cases hx:x=t
    ·rw [if_pos hx,hx,z0]
    ·rw [if_neg hx,oq,if_neg (by rw [e]; exact fun z=>hx z.symm),Int.zero_add]
  ·rw [if_pos e,oq,ih,oq p r t,if_neg e,Int.zero_add];by_cases hx:x=t
   ·rw [if_pos hx,if_pos hx,hx,if_neg e,Int.zero_add]
   ·rw [if_neg hx,if_neg hx,oq]
def wo (g:Gr) (t:Tr) (m:Int):Gr:=ofPs (woL t m g.ps)
theorem uV (g:Gr) (t:Tr) (m:Int):(wo g t m).ps=woL t m g.ps:=aQ _
variable {C D E:Int} {g k:Gr}
theorem yp (h:g.Ok C):g.ps.Pairwise (fun p q=>p.1 ≠ q.1):=(bj.mp h).2.imp fun z=>Vt z
theorem uh (h:g.Ok C):∀ p ∈ g.ps,0 < p.2:=fun p hp=>by have:=((bj.mp h).1 p hp).2.2.1; omega
theorem iC (h:g.Ok C) {t:Tr} {m:Int} (hm:0<=m):(wo g t m).Ok C:=by
 obtain ⟨h1,h2⟩:=bj.mp h;refine fB.mpr ⟨fun p hp=>?_,rA (R:=fun a b=>dataLt (aG a) (aG b)=true) h2⟩;obtain ⟨q,hq,e,l,o⟩:=lJ hm hp;obtain ⟨a,b,c,d⟩:=h1 q hq;rw [<- e];exact ⟨a,b,o c,by omega⟩
theorem EI (h:g.Ok C) {t:Tr} {m:Int} (hm:0<=m) (x:Tr):S (wo g t m) x=if x=t then (if m < S g t then S g t-m else 0) else S g x:=by
 show sumE (wo g t m).ps x=_;rw [uV]; exact rG x (yp h) (uh h) hm
theorem rq (g:Gr) (t:Tr) (m:Int):(wo g t m).parts<=g.parts:=by
 rw [wo,aU,<- ku g]; exact uW _ _ _
theorem CZ (g:Gr) (t:Tr) (m:Int):(wo g t m).ps.length<=g.ps.length:=by rw [uV]; exact uX _ _ _
theorem pM (g:Gr) (t:Tr) (m:Int):(wo g t m).deep<=g.deep:=by
 refine lR fun p hp=>?_;rw [uV] at hp;obtain ⟨q,hq,e⟩:=iU hp;rw [<- e]; exact av g q hq
theorem lX:∀ {bs:List (Tr × Int)},bs.Pairwise (fun p q=>p.1 ≠ q.1)->∀ p ∈ bs,sumE bs p.1=p.2
 | [],_,_,h=>nomatch h
 | q::r,h,p,hp=>by
  obtain ⟨h1,h2⟩:=List.pairwise_cons.mp h;rw [oq];rcases Qv hp with e | hp
  ·rw [e,if_pos rfl,jt fun q' qy z=>h1 q' qy z.symm,Int.add_zero]
  ·rw [if_neg (h1 p hp),Int.zero_add]; exact lX h2 p hp
theorem iS (h:g.Ok C) {p:Tr × Int} (hp:p ∈ g.ps):S g p.1=p.2:=lX (yp h) p hp
theorem c6 (h:g.Ok C) (x:Tr):(S g x=0/\∀ p ∈ g.ps,p.1 ≠ x)\/∃ m,(x,m) ∈ g.ps/\S g x=m/\1<=m/\m < C:=by
 by_cases e:∃ p ∈ g.ps,p.1=x
 ·obtain ⟨p,hp,rfl⟩:=e;obtain ⟨_,_,c,d⟩:=(bj.mp h).1 p hp;exact .inr ⟨p.2,hp,iS h hp,c,d⟩
 ·have h':∀ p ∈ g.ps,p.1 ≠ x:=fun p hp z=>e ⟨p,hp,z⟩;exact .inl ⟨jt h',h'⟩
theorem fG (h:g.Ok C) (x:Tr):0<=S g x:=by
 rcases c6 h x with ⟨e,_⟩ | ⟨m,_,e,h1,_⟩
 ·omega
 ·omega
theorem EJ (h:g.Ok C) (hC:1<=C) (x:Tr):S g x < C:=by
 rcases c6 h x with ⟨e,_⟩ | ⟨m,_,e,_,h1⟩
 ·omega
 ·omega
theorem Mz (h:g.Ok C) {x:Tr} (hx:1<=S g x):∃ m,(x,m) ∈ g.ps/\S g x=m:=by
 rcases c6 h x with ⟨e,_⟩ | ⟨m,h1,e,_⟩
 ·omega
 ·exact ⟨m,h1,e⟩
theorem vb (hg:∀ p ∈ g.ps,dE p.1.1/\p.1.2.Ok E/\1<=p.2) (hk:∀ p ∈ k.ps,dE p.1.1/\p.1.2.Ok E/\1<=p.2) (h:∀ t,S g t+S k t < E):(ki g k).Ok E:=by
 have hr:=WA (enc:=aG) (g.ps++k.ps);have oh:∀ p ∈ g.ps++k.ps,dE p.1.1/\p.1.2.Ok E/\1<=p.2:=fun p hp=>(Qw hp).elim (hg p) (hk p);refine fB.mpr ⟨fun p hp=>?_,hr⟩;obtain ⟨q,hq,e⟩:=FN (enc:=aG) _ p hp;obtain ⟨a,b,_⟩:=oh q hq;have h1:=(VZ (enc:=aG) (fun p hp=>(oh p hp).2.2) p hp).1;have e2:sumE (pS aG (g.ps++k.ps)) p.1=p.2:=lX (hr.imp fun z=>Vt z) p hp;rw [FA,vY] at e2;have:=h p.1;refine ⟨e ▸ a,e ▸ b,h1,?_⟩;show p.2 < E;rw [<- e2]; exact this
theorem mC (h:g.Ok C) (hC:C<=E):∀ p ∈ g.ps,dE p.1.1/\p.1.2.Ok E/\1<=p.2:=fun p hp=>by
 obtain ⟨a,b,c,_⟩:=(bj.mp h).1 p hp;exact ⟨a,b.mono hC,c⟩
theorem fN (hg:g.Ok C) (hk:k.Ok D) (hC:1<=C) (hD:1<=D):(ki g k).Ok (C+D):=by
 refine vb (mC hg (by omega)) (mC hk (by omega)) fun t=>?_;have:=EJ hg hC t;have:=EJ hk hD t;omega
theorem An (hg:g.Ok C):ki g .nil=g:=by
 have hS:∀ t,S (ki g .nil) t=S g t:=fun t=>by rw [pq]; exact Int.add_zero _
 cases g with
 | nil=>exact ext (fN (C:=1) (D:=1) (g:=.nil) (k:=.nil) trivial trivial (by omega) (by omega)) hg hS
 | cons n h m r =>
  have hC:1<=C:=by have:=hg.2.2.1; have:=hg.2.2.2.1; omega
  exact ext (fN hg (k:=.nil) (D:=1) trivial hC (by omega)) hg hS
def jH (m:Int) (bs:List (Tr × Int)):List (Tr × Int):=bs.map fun p=>(p.1,p.2*m)
def dJ (g:Gr) (m:Int):Gr:=if m=0 then .nil else ofPs (jH m g.ps)
theorem uY (m:Int):∀ bs:List (Tr × Int),tot (jH m bs)=tot bs
 | []=>rfl
 | p::r=>by
  show 1+p.1.2.parts+tot (jH m r)=1+p.1.2.parts+tot r;rw [uY m r]
theorem gJ (g:Gr) (m:Int):(dJ g m).parts<=g.parts:=by
 rw [dJ]
 split
 ·exact Nat.zero_le _
 ·rw [aU,uY,ku]; exact Yc _
theorem u6 (g:Gr) (m:Int):(dJ g m).ps.length<=g.ps.length:=by
 rw [dJ]
 split
 ·exact Nat.zero_le _
 ·rw [aQ,jH,Ye]; exact Yc _
theorem pO {p:Tr × Int} (hp:p ∈ (dJ g m).ps):∃ q ∈ g.ps,q.1=p.1:=by
 rw [dJ] at hp
 split at hp
 ·exact nomatch hp
 ·rw [aQ] at hp;obtain ⟨q,hq,e⟩:=Qx hp;exact ⟨q,hq,by rw [<- e]⟩
theorem gK (g:Gr) (m:Int):(dJ g m).deep<=g.deep:=by
 refine lR fun p hp=>?_;obtain ⟨q,hq,e⟩:=pO hp;rw [<- e]; exact av g q hq
theorem fZ (h:g.Ok C) (hC:1<=C) {m:Int} (hm:0<=m):(dJ g m).Ok (C*m+C):=by
 have hle:C<=C*m+C:=by have:=Int.mul_nonneg (show (0:Int)<=C by omega) hm; omega
 rw [dJ]
 split
 ·trivial
 ·obtain ⟨h1,h2⟩:=bj.mp h;refine fB.mpr ⟨fun p hp=>?_,?_⟩
  ·obtain ⟨q,hq,rfl⟩:=Qx hp;obtain ⟨a,b,c,d⟩:=h1 q hq;have m1:1<=m:=by omega
   refine ⟨a,b.mono hle,?_,?_⟩
   ·show 1<=q.2*m;have:=Int.mul_le_mul c m1 (by omega) (by omega);omega
   ·show q.2*m < C*m+C;have:=Int.mul_le_mul_of_nonneg_right (show q.2<=C by omega) hm;omega
  ·exact List.pairwise_map.mpr (h2.imp fun z=>z)
def pos (g:Gr) (t:Tr):Nat:=(g.ps.map (·.1)).idxOf t
theorem pos_at (h:g.Ok C) {t:Tr} {m:Int} (hp:(t,m) ∈ g.ps):g.ps[pos g t]?=some (t,m):=by
 have ht:t ∈ g.ps.map (·.1):=Ku ⟨_,hp,rfl⟩;have hl:pos g t < (g.ps.map (·.1)).length:=List.idxOf_lt_length_of_mem ht;have jC:pos g t < g.ps.length:=by rwa [Ye] at hl
 have e:(g.ps.map (·.1))[pos g t]=t:=List.getElem_idxOf hl;rw [List.getElem_map] at e;rw [Kp jC];have hm:=List.getElem_mem jC;have e1:=iS h hm;have e2:=iS h hp;rw [e] at e1;have e3:(g.ps[pos g t]).2=m:=by rw [<- e1]; exact e2
 exact congrArg some (Prod.ext e e3)
theorem yo (h:g.Ok C) {i:Nat} {p:Tr × Int} (hp:g.ps[i]?=some p):pos g p.1=i:=by
 have h1:=pos_at (t:=p.1) (m:=p.2) h (Qu hp);obtain ⟨hi,ei⟩:=Kq hp;obtain ⟨hj,ej⟩:=Kq h1;have nd:(g.ps.map (·.1)).Nodup:=List.pairwise_map.mpr (yp h);refine (List.getElem?_inj (by rw [Ye]; exact hj) nd).mp ?_;rw [List.getElem?_map,List.getElem?_map,h1,hp]
def Named (ns:List Str) (g:Gr):Prop:=∀ x ∈ g.within,x.1.1 ∈ ns
theorem aR:Named ns g ↔ ∀ p ∈ g.ps,p.1.1 ∈ ns/\Named ns p.1.2:=by
 unfold Named;rw [d7];constructor
 ·intro h p hp;exact ⟨h p (List.mem_flatMap.mpr ⟨p,hp,by simp⟩),fun x hx=>h x (List.mem_flatMap.mpr ⟨p,hp,by simp [hx]⟩)⟩
 ·intro h x hx;obtain ⟨p,hp,hx⟩:=List.mem_flatMap.mp hx;rcases Qv hx with e | hx
  ·rw [e]; exact (h p hp).1
  ·exact (h p hp).2 x hx
theorem gN (h:Named ns g) (t:Tr) (m:Int):Named ns (wo g t m):=aR.mpr fun p hp=>by
 rw [uV] at hp;obtain ⟨q,hq,e⟩:=iU hp;rw [<- e]; exact aR.mp h q hq
theorem oF (h:Named ns g) (m:Int):Named ns (dJ g m):=aR.mpr fun p hp=>by
 obtain ⟨q,hq,e⟩:=pO hp;rw [<- e]; exact aR.mp h q hq
theorem gO (h:Named ns g) (h2:Named ns k):Named ns (ki g k):=aR.mpr fun p hp=>by
 rw [tP] at hp;obtain ⟨q,hq,e⟩:=FN (enc:=aG) _ p hp;rw [<- e];rcases Qw hq with hq | hq
 ·exact aR.mp h q hq
 ·exact aR.mp h2 q hq
def one (t:Tr) (m:Int):Gr:=.cons t.1 t.2 m .nil
theorem mB (t:Tr) (m:Int):(one t m).ps=[(t,m)]:=rfl
theorem zy (t:Tr) (m:Int) (x:Tr):S (one t m) x=if t=x then m else 0:=by
 show sumE [(t,m)] x=_;rw [oq]; exact Int.add_zero _
theorem qf (h1:dE t.1) (h2:t.2.Ok C) (h3:1<=m) (h4:m < C):(one t m).Ok C:=⟨h1,h2,h3,h4,trivial,fun _ h=>nomatch h⟩
theorem kO (h:t.1 ∈ ns) (h2:Named ns t.2) (m:Int):Named ns (one t m):=aR.mpr fun p hp=>by
 rw [mB] at hp;rw [Qy hp]; exact ⟨h,h2⟩
end Gr
def Wd (d:PyData):Prop:=d.canLay0=true/\d.depth<=190
def Rk (K:Qn):R2:=fun x y H Q=>∃ d e,Dp K H x d/\Dp K H y e/\Wd d/\Wd e/\Q (.bl (PyData.eqv d e)) H
def Ri (K:Qn):R2:=fun x y H Q=>∃ d e,Dp K H x d/\Dp K H y e/\Wd d/\Wd e/\Q (.bl (!PyData.eqv d e)) H
section
variable {X:Cx}
theorem VJ {d e:PyData} (hd:Wd d) (hu:n+195 < cLine):n+min d.depth e.depth < cLine:=by
 have h1:=hd.2;have h2:min d.depth e.depth<=d.depth:=Nat.min_le_left ..;omega
theorem zh8 (hu:X.A.units+195 < cLine):OpR X (compareOp .Eq) (Rk X.K):=by
 intro pn s σ H a b v1 v2 Q I ra rb ⟨d,e,da,db,wd,we,q⟩;obtain ⟨l1,k1⟩:=Dp.reads I d a v1 da ra;obtain ⟨l2,k2⟩:=Dp.reads I e b v2 db rb;exact SeqAt.compareEq_reads k1 k2 wd.1 we.1 (VJ wd hu) ⟨.bl _,H,I,Ja,q⟩
theorem VL (hu:X.A.units+195 < cLine):OpR X (compareOp .NotEq) (Ri X.K):=by
 intro pn s σ H a b v1 v2 Q I ra rb ⟨d,e,da,db,wd,we,q⟩;obtain ⟨l1,k1⟩:=Dp.reads I d a v1 da ra;obtain ⟨l2,k2⟩:=Dp.reads I e b v2 db rb;exact SeqAt.compareNe_reads k1 k2 wd.1 we.1 (VJ wd hu) ⟨.bl _,H,I,Ja,q⟩
def zew (K:Qn):V->List V->Hp->VK->Prop:=fun x xs H Q=>∃ (a:Addr) (y:V) (d:PyData) (ds:List PyData) (j:Nat) (z:PyData),x=V.ref a/\xs=[y]/\Dp K H (V.ref a) (.list ds)/\Dp K H y d /\
 PyData.canLayAll0 ds=true/\Wd d/\ds[j]?=some z/\PyData.eqv z d=true/\(∀ (m:Nat) (z':PyData),m < j->ds[m]?=some z'->PyData.eqv z' d=false)/\Q (.int (j:Nat)) H
theorem Xf (hu:X.A.units+196 < cLine):MtR X "list.index" (zew X.K):=by
 intro pn s σ H x xs v us Q I rx rs ⟨a,y,d,ds,j,z,ex,TU,dl,dy,lay,wd,ez,eqz,before,q⟩;subst ex TU;cases rx;cases rs with
 | cons ry rt =>
  rename_i uy ut;cases rt;obtain ⟨ls,k1⟩:=Dp.reads I d y uy dy ry;have room:X.A.units+1+min (PyData.depthAll ds) d.depth < cLine:=by
   have h1:=wd.2;have h2:min (PyData.depthAll ds) d.depth<=d.depth:=Nat.min_le_right ..;omega
  cases dl with
  | lst dh da =>
   obtain ⟨cf,vals,⟨⟨c1,c2,c3,c4⟩,cnt,JS,Kh,Ze,B2⟩,hlen⟩:=I.list dh;simp only at Kh B2;subst Kh B2;obtain ⟨ms,k2⟩:=Dp.readsAll I ds _ cf da vals;have el:cf.length=ds.length:=SeqAt.ReadsAll.length ds cf ms k2;have em:cf.map (SeqAt.readOf s.heap)=ds:=SeqAt.readsAll_map ds cf ms lay k2;have jy:=sizeLine_eq;have zx4:=vals.length;obtain ⟨jd,_⟩:=Kq ez;have jl:j < cf.length:=by omega
   have ja:j < cf.toArray.size:=by simpa using jl
   have look:∀ (m:Nat) (hm:m < cf.toArray.size) (z':PyData),ds[m]?=some z'->SeqAt.readOf s.heap cf.toArray[m]=z':=by
    intro m hm z' e;have Sv:m < cf.length:=by simpa using hm
    rw [<- em,List.getElem?_map,Kp Sv] at e;have e':=Yd (show some (SeqAt.readOf s.heap cf[m])=some z' from e);simpa using e'
   refine call_meets PySem.F.slot_list_index ⟨_,JS,Ja⟩ PySem.F.entry_list_index (PySem.F.args_list_index_2 _ _)
    (SeqAt.list_indexAt a cf.toArray cnt c2 c4 uy (fun u=>PyData.eqv (SeqAt.readOf s.heap u) d) j ja (by omega) ?_ ?_) ⟨JS,SeqAt.items_eqAt (vs:=cf.toArray) (show ReadsAll s.heap cf.toArray.toList ds ms from k2) k1 lay wd.1 room,?_⟩
   ·show PyData.eqv (SeqAt.readOf s.heap cf.toArray[j]) d=true;rw [look j ja z ez]; exact eqz
   ·intro m hm hmj;have e:ds[m]?=some ds[m]:=Kp (show m < ds.length by omega);show PyData.eqv (SeqAt.readOf s.heap cf.toArray[m]) d=false;rw [look m hm _ e]; exact before m _ hmj e
   ·exact ⟨.int (j:Nat),H,I.tok _,⟨_,Ja⟩,q⟩
def zd1 (K:Qn) {β:Type} (enc:β->PyData) (vs:List V) (H:Hp) (Q:VK):Prop:=∃ (a:Addr) (xs:List V) (bs:List β),vs=[V.ref a]/\(SqL K H a xs\/SqT K H a xs)/\Bears K H enc xs bs/\AllAlike (bs.map enc)/\Sortable (bs.map enc)/\bs.length<=10000000/\(∀ b ∈ bs,(enc b).depth<=190) /\
 ∀ (p:Addr) (ys:List V),H p=none->Bears K H enc ys (bs.mergeSort (dataLe false enc))->Q (.ref p) (upd H p (.lst ys))
theorem zb9 {β:Type} (enc:β->PyData) (hu:X.A.units+195 < cLine):CallR X (.builtin "sorted") (zd1 X.K enc):=by
 intro pn s σ H vs us Q I r ⟨a,xs,bs,e,hs,hb,oR,BO,hl,hd,q⟩;subst e;rw [Vals.ref1 r];rcases hs with hs | hs
 ·obtain ⟨cf,rv,D4,_⟩:=I.list hs;obtain ⟨e1,e2⟩:=Fy I hb rv;refine XN (kw:=[]) (vs:=cf) (bs:=bs) (enc:=enc) (b:=false) (R:=fun u b=>∃ v,RelV v u/\Dp X.K H v (enc b)) plain_is_rev (args_sorted1 _) (fun _=>args_list_sort _) D4 e1 e2 oR BO (by rw [sizeLine_eq]; omega) (fun b m=>by have:=hd b m; omega) fun out h' h2 n k1 k2 uH ho h1=>?_;obtain ⟨ys,g2,g3⟩:=Ie h1;have I':Inv X pn σ H { s with heap:=h' }:=I.kept (t':=s.toks) k1;have hlen:ys.length<=sizeLine:=by rw [g2.length,ho,sizeLine_eq]; omega
  exact ⟨.ref _,upd H h'.objs.size (.lst ys),I'.laid (t':=s.toks) (fun b o e=>k2 b o e) (Yc _) ⟨hlen,out,n,g2,uH⟩,Ja,q _ ys (I'.hok.fresh (Yc _)) g3⟩
 ·obtain ⟨cf,rv,D4,_⟩:=I.tuple hs;obtain ⟨e1,e2⟩:=Fy I hb rv;refine XF (kw:=[]) (vs:=cf) (bs:=bs) (enc:=enc) (b:=false) (R:=fun u b=>∃ v,RelV v u/\Dp X.K H v (enc b)) plain_is_rev (args_sorted1 _) (fun _=>args_list_sort _) D4 e1 e2 oR BO (by rw [sizeLine_eq]; omega) (fun b m=>by have:=hd b m; omega) fun out h' h2 n k1 k2 uH ho h1=>?_;obtain ⟨ys,g2,g3⟩:=Ie h1;have I':Inv X pn σ H { s with heap:=h' }:=I.kept (t':=s.toks) k1;have hlen:ys.length<=sizeLine:=by rw [g2.length,ho,sizeLine_eq]; omega
  exact ⟨.ref _,upd H h'.objs.size (.lst ys),I'.laid (t':=s.toks) (fun b o e=>k2 b o e) (Yc _) ⟨hlen,out,n,g2,uH⟩,Ja,q _ ys (I'.hok.fresh (Yc _)) g3⟩
end
theorem Gr.wd {g:Gr} (h:g.Ok C) (hd:g.deep<=63):Wd g.enc:=⟨by simp [Gr.enc,PyData.canLay0,Gr.kQ h],by have:=g.cz; omega⟩
theorem Gr.xT (h0:dE t.1) (h:t.2.Ok C) (hd:t.2.deep<=62):Wd (Gr.aG t):=⟨by simp [Gr.aG,Gr.enc,PyData.canLay0,PyData.canLayAll0,Gr.kQ h,Gr.dq h0],by have:=Gr.jc t; omega⟩
theorem Gr.um {C:Int}:∀ {ps:List (Tr × Int)},(∀ p ∈ ps,dE p.1.1/\p.1.2.Ok C)->PyData.canLayAll0 (ps.map fun p=>Gr.aG p.1)=true
 | [],_=>by simp [PyData.canLayAll0]
 | p::r,h=>by
  obtain ⟨a,b⟩:=h p (by simp);rw [Ky,PyData.canLayAll0,um fun q hq=>h q (by simp [hq])];simp [Gr.aG,Gr.enc,PyData.canLay0,PyData.canLayAll0,Gr.kQ b,Gr.dq a]
theorem Gr.ou (a b:Tr):PyData.eqv (Gr.aG a) (Gr.aG b)=decide (a=b):=Orderly.eq a b
def Bk.far (b:Bk) (k:Str) (n:Int):Int:=match b.get k with
 | some kd=>if kd.w=true then n else 0
 | none=>0
theorem Bk.kS (b:Bk) (k:Str) {n:Int} (h:0<=n):0<=b.far k n/\b.far k n<=n:=by
 unfold Bk.far
 split
 ·split <;> omega
 ·omega
namespace Gr
variable {b:Bk} {n:Int} {C F E:Int} {g fr:Gr}
def fM (r:Ru) (n:Int):Gr:=ki r.1 (dJ r.2 n)
theorem qJ (h:dV r) (hn:0<=n):(fM r n).Ok (1000000001*n+2000000002):=by
 have h2:=fZ h.2.1 (by omega) hn;exact (fN h.1 h2 (by omega) (by omega)).mono (by omega)
theorem kR (h:dV r) (n:Int):(fM r n).parts<=4:=by
 have h1:=iW r.1 (dJ r.2 n);have h2:=gJ r.2 n;have h3:=h.2.2;unfold fM;omega
theorem mX (h:dV r) (n:Int):(fM r n).deep<=4:=by
 have h1:=pJ (fM r n);have h2:=kR h n;omega
def stk (b:Bk) (n:Int) (fr:Gr):Pl->Gr->Gr × Pl
 | [],g=>(g,[])
 | i::r,g=>match g.ps[i]? with
  | none=>(g,[])
  | some p=>if r=[] then (ki (wo g p.1 1) fr,[]) else
    (ki (wo g p.1 1) (one (p.1.1,(stk b n fr r p.1.2).1) (1+b.far p.1.1 n)),pos (ki (wo g p.1 1) (one (p.1.1,(stk b n fr r p.1.2).1) (1+b.far p.1.1 n))) (p.1.1,(stk b n fr r p.1.2).1)::(stk b n fr r p.1.2).2)
def bareAt:Gr->Pl->Option Str
 | _,[]=>none
 | g,i::r=>match g.ps[i]? with
  | none=>none
  | some p=>if r=[] then (if p.1.2=.nil then some p.1.1 else none) else bareAt p.1.2 r
theorem fu {p:Tr × Int} (e:g.ps[i]?=some p):stk b n fr [i] g=(ki (wo g p.1 1) fr,[]):=by
 rw [stk,e]; rfl
def chg (b:Bk) (n:Int) (fr:Gr) (r:Pl) (p:Tr × Int):Tr:=(p.1.1,(stk b n fr r p.1.2).1)
def xi (b:Bk) (n:Int) (fr:Gr) (r:Pl) (g:Gr) (p:Tr × Int):Gr:=ki (wo g p.1 1) (one (chg b n fr r p) (1+b.far p.1.1 n))
theorem cY {r:Pl} {p:Tr × Int} (e:g.ps[i]?=some p) (hr:r ≠ []):stk b n fr (i::r) g=(xi b n fr r g p,pos (xi b n fr r g p) (chg b n fr r p)::(stk b n fr r p.1.2).2):=by
 rw [stk,e];simp only [if_neg hr]
 rfl
theorem bT {k:Str} (h:bareAt g [i]=some k):∃ p,g.ps[i]?=some p/\p.1=(k,.nil):=by
 rw [bareAt] at h;cases e:g.ps[i]? with
 | none=>rw [e] at h; cases h
 | some p =>
  rw [e] at h;simp only [if_true] at h;by_cases z:p.1.2=.nil
  ·rw [if_pos z] at h;exact ⟨p,Ja,Prod.ext (Yd h) z⟩
  ·rw [if_neg z] at h; cases h
theorem bC {r:Pl} {k:Str} (hr:r ≠ []) (h:bareAt g (i::r)=some k):∃ p,g.ps[i]?=some p/\bareAt p.1.2 r=some k:=by
 rw [bareAt] at h;cases e:g.ps[i]? with
 | none=>rw [e] at h; cases h
 | some p =>
  rw [e] at h;simp only [if_neg hr] at h;exact ⟨p,Ja,h⟩
theorem qN {pl:Pl} {k:Str} (h:bareAt g pl=some k):pl ≠ []:=fun z=>by rw [z] at h; cases h
theorem CY (h:g.Ok C) (hm:0<=m) (hC:C<=E):∀ p ∈ (wo g t m).ps,dE p.1.1/\p.1.2.Ok E/\1<=p.2:=mC (iC h hm) hC
theorem Br (h:g.Ok C) {t:Tr} {m:Int} (hm:0<=m) (x:Tr):S (wo g t m) x<=S g x:=by
 rw [EI h hm]
 split
 ·next e=>
  subst e;have:=fG h x
  split <;> omega
 ·exact Kw _
theorem bW (h:g.Ok C) {p:Tr × Int} (hp:p ∈ g.ps):dE p.1.1/\p.1.2.Ok C/\1<=p.2/\p.2 < C:=(bj.mp h).1 p hp
theorem pB {p:Tr × Int} (h:g.Ok C) (hp:p ∈ g.ps):2<=C:=by have:=(bW h hp).2.2; omega
theorem kA (hn:0<=n) (hF:1<=F) (vy:fr.Ok F):∀ {pl:Pl} {g:Gr} {k:Str},g.Ok C->bareAt g pl=some k->(stk b n fr pl g).1.Ok (C+F+n+2)
 | [],_,_,_,h=>nomatch h
 | i::r,g,k,ho,h=>by
  by_cases hr:r=[]
  ·subst hr;obtain ⟨p,e,_⟩:=bT h;rw [fu e];have hC:=pB ho (Qu e);exact (fN (iC ho (by omega)) vy (by omega) hF).mono (by omega)
  ·obtain ⟨p,e,h2⟩:=bC hr h;rw [cY e hr];have pm:=Qu e;have hC:=pB ho pm;obtain ⟨a,o,_,_⟩:=bW ho pm;have ih:=kA hn hF vy o h2;obtain ⟨f1,f2⟩:=Bk.kS b p.1.1 hn;refine vb (CY ho (by omega) (by omega)) (fun q hq=>?_) fun t=>?_
   ·rw [mB] at hq;rw [Qy hq];exact ⟨a,ih,by show 1<=1+b.far p.1.1 n; omega⟩
   ·have h1:=Br ho (t:=p.1) (m:=1) (by omega) t;have h3:=EJ ho (by omega) t;rw [zy]
    split <;> omega
theorem iX:∀ {pl:Pl} {g:Gr} {k:Str},bareAt g pl=some k->(stk b n fr pl g).1.parts<=pl.length*(g.parts+1)+fr.parts
 | [],_,_,h=>nomatch h
 | i::r,g,k,h=>by
  by_cases hr:r=[]
  ·subst hr;obtain ⟨p,e,_⟩:=bT h;rw [fu e];have h1:=iW (wo g p.1 1) fr;have h2:=rq g p.1 1;simp only [Yk,List.length_nil];omega
  ·obtain ⟨p,e,h2⟩:=bC hr h;rw [cY e hr];have pm:=Qu e;have ih:=iX h2;have h3:=iW (wo g p.1 1) (one (chg b n fr r p) (1+b.far p.1.1 n));have h4:=rq g p.1 1;have h5:(one (chg b n fr r p) (1+b.far p.1.1 n)).parts=1+(stk b n fr r p.1.2).1.parts:=rfl;have h6:=bu g p pm;have h7:r.length*(p.1.2.parts+1)<=r.length*(g.parts+1):=Nat.mul_le_mul_left _ (by omega);show (xi b n fr r g p).parts<=_;rw [Yk,Nat.succ_mul];unfold xi;omega
theorem gL:∀ {pl:Pl} {g:Gr} {k:Str},bareAt g pl=some k->(stk b n fr pl g).1.deep<=max g.deep (pl.length-1+fr.deep)
 | [],_,_,h=>nomatch h
 | i::r,g,k,h=>by
  by_cases hr:r=[]
  ·subst hr;obtain ⟨p,e,_⟩:=bT h;rw [fu e];have h2:=pM g p.1 1;exact lV (by omega) (by simp only [Yk,List.length_nil]; omega)
  ·obtain ⟨p,e,h2⟩:=bC hr h;rw [cY e hr];have pm:=Qu e;have ih:=gL h2;have h4:=pM g p.1 1;have h5:(one (chg b n fr r p) (1+b.far p.1.1 n)).deep=max (1+(stk b n fr r p.1.2).1.deep) 0:=rfl;have h6:=av g p pm;have h7:0 < r.length:=List.length_pos_iff.mpr hr;refine lV (by omega) ?_;rw [h5,Yk];omega
theorem fF:∀ {pl:Pl} {g:Gr} {k:Str},bareAt g pl=some k->pl.length<=g.deep
 | [],_,_,h=>nomatch h
 | i::r,g,k,h=>by
  by_cases hr:r=[]
  ·subst hr;obtain ⟨p,e,_⟩:=bT h;have:=av g p (Qu e);simp only [Yk,List.length_nil];omega
  ·obtain ⟨p,e,h2⟩:=bC hr h;have:=av g p (Qu e);have:=fF h2;simp only [Yk];omega
theorem kD {ns:List Str} (vy:Named ns fr):∀ {pl:Pl} {g:Gr} {k:Str},bareAt g pl=some k->Named ns g->Named ns (stk b n fr pl g).1
 | [],_,_,h,_=>nomatch h
 | i::r,g,k,h,hg=>by
  by_cases hr:r=[]
  ·subst hr;obtain ⟨p,e,_⟩:=bT h;rw [fu e];exact gO (gN hg _ _) vy
  ·obtain ⟨p,e,h2⟩:=bC hr h;rw [cY e hr];obtain ⟨h3,h4⟩:=aR.mp hg p (Qu e);exact gO (gN hg _ _) (kO (t:=chg b n fr r p) h3 (kD vy h2 h4) _)
theorem rK:∀ {pl:Pl} {g:Gr} {k:Str},bareAt g pl=some k->(stk b n fr pl g).2.length=pl.length-1
 | [],_,_,h=>nomatch h
 | i::r,g,k,h=>by
  by_cases hr:r=[]
  ·subst hr;obtain ⟨p,e,_⟩:=bT h;rw [fu e]; rfl
  ·obtain ⟨p,e,h2⟩:=bC hr h;rw [cY e hr];have ih:=rK h2;have h7:0 < r.length:=List.length_pos_iff.mpr hr;simp only [Yk];omega
theorem j2:∀ {pl:Pl} {g:Gr} {k:Str} (a:Str),bareAt g pl=some k->lk (a,g) (ik pl)=some (k,.nil)
 | [],_,_,_,h=>nomatch h
 | i::r,g,k,a,h=>by
  have hs:∀ p,g.ps[i]?=some p->stp g (some (i:Int))=some p.1:=fun p e=>by
   show (if 0<=(i:Int) then (g.ps[(i:Int).toNat]?).map (·.1) else none)=_;rw [if_pos (by omega),Int.toNat_natCast,e]; rfl
  by_cases hr:r=[]
  ·subst hr;obtain ⟨p,e,e2⟩:=bT h;show (stp g (some (i:Int))).bind (fun u=>lk u (ik []))=_;rw [hs p e,e2]; rfl
  ·obtain ⟨p,e,h2⟩:=bC hr h;show (stp g (some (i:Int))).bind (fun u=>lk u (ik r))=_;rw [hs p e];exact j2 p.1.1 h2
end Gr
def Xl (K:Qn) {γ:Type} [DecidableEq γ] (enc:γ->PyData):Sp:=fun vs H Q _=>∃ (a:Addr) (xs:List V) (bs:List (γ × Int)),vs=[.ref a]/\SqL K H a xs/\Bears K H (la enc) xs bs/\bs.length<=5000/\(∀ b ∈ bs,Wd (enc b.1)) /\
 ∀ (c:Addr) (ys:List V) (H':Hp),SB [] H H'->SqT K H' c ys->Bears K H' (la enc) ys (jn bs)->Q (.ref c) H'
def QK (K:Qn):Sp:=fun vs H Q _=>∃ (v u:V) (g k:Gr),vs=[v,u]/\GA K H v g/\GA K H u k/\(∃ C,g.Ok C/\k.Ok C)/\g.deep<=63/\k.deep<=63/\g.ps.length<=2100/\k.ps.length<=2100/\∀ (x:V) (H':Hp),SB [] H H'->GA K H' x (Gr.ki g k)->Q x H'
def Xg (K:Qn):Sp:=fun vs H Q _=>∃ (v u:V) (g:Gr) (t:Tr) (m:Int),vs=[v,u,.int m]/\GA K H v g/\Dp K H u (Gr.aG t)/\(∃ C,g.Ok C/\t.2.Ok C)/\dE t.1/\g.deep<=63/\t.2.deep<=62/\g.ps.length<=5000/\∀ (x:V) (H':Hp),SB [] H H'->GA K H' x (Gr.wo g t m)->Q x H'
def VR (K:Qn):Sp:=fun vs H Q _=>∃ (v:V) (g:Gr) (m:Int),vs=[v,.int m]/\GA K H v g/\g.ps.length<=5000/\(∀ p ∈ g.ps,0<=p.2/\p.2 < 2 ^ 2000)/\0<=m/\m < 2 ^ 2000/\∀ (x:V) (H':Hp),SB [] H H'->GA K H' x (Gr.dJ g m)->Q x H'
def VO (K:Qn):Sp:=fun vs H Q _=>∃ (v u:V) (g:Gr) (t:Tr) (m:Int),vs=[v,u]/\GA K H v g/\Dp K H u (Gr.aG t)/\(∃ C,g.Ok C)/\g.deep<=63/\g.ps.length<=5000/\(t,m) ∈ g.ps/\∀ H',SB [] H H'->Q (.int (Gr.pos g t:Nat)) H'
def VU (K:Qn):Sp:=fun vs H Q _=>∃ (v:V) (r:Ru) (n:Int),vs=[v,.int n]/\Dp K H v (Ru.enc r)/\dV r/\0<=n/\n < 2 ^ 900/\∀ (x:V) (H':Hp),SB [] H H'->GA K H' x (Gr.fM r n)->Q x H'
def Vu (K:Qn) (C:Addr):Sp:=fun vs H Q _=>∃ (v:V) (b:Bk) (k:Str) (n:Int),vs=[v,.str k,.int n]/\hJ K C H v b/\b.length<=1000/\k ∈ b.names/\∀ H',SB [] H H'->Q (.int (b.far k n)) H'
def WJ (K:Qn) (C:Addr):Sp:=fun vs H Q E=>∃ (v:V) (o:Option Int),vs=[v]/\Wh K H v o/\((∃ n,o=some n/\0<=n)->∀ H',SB [] H H'->Q .non H')/\((∀ n,o=some n->n < 0)->∀ H',SB [] H H'->E (.ref C) none H')
abbrev lN:Ru:=(.nil,.nil)
def Wx (K:Qn) (C R:Addr):Sp:=fun vs H Q E=>∃ (v x:V) (b:Bk) (k:Str) (kd:Kd) (o:Option Int),vs=[v,.str k,x]/\hJ K C H v b/\b.Ok/\b.get k=some kd/\Wh K H x o /\
 (∀ (i:Nat) (r:Ru),o=some (i:Int)->(lN::kd.rs)[i]?=some r->∀ (y:V) (H':Hp),SB [] H H'->Dp K H' y (Ru.enc r)->Q y H')/\((∀ i:Nat,o=some (i:Int)->(lN::kd.rs)[i]?=none)->∀ H',SB [] H H'->E (.ref R) none H')
def Xz (K:Qn) (C:Addr):Sp:=fun vs H Q E=>∃ (v:V) (g:Gr),vs=[v]/\GA K H v g/\g.deep<=68/\g.parts<=200000/\((g.parts<=2000/\g.deep<=60)->∀ H',SB [] H H'->Q .non H')/\(¬ (g.parts<=2000/\g.deep<=60)->∀ H',SB [] H H'->E (.ref C) none H')
def P6 (K:Qn):Sp:=fun vs H Q _=>∃ (v:V) (g:Gr) (ns:List Str),vs=[v]/\GA K H v g/\g.deep<=68/\g.parts<=3000/\Gr.Named ns g/\ns.length<=60/\∀ (l:Addr) (ss:List Str) (H':Hp),SB [] H H'->H l=none->H' l=some (.lst (ss.map V.str))->SrtOf ss (g.within.map (·.1.1))->ss.length<=60->Q (.ref l) H'
def FL (K:Qn) (C:Addr) (m:Nat):Sp:=fun vs H Q _=>∃ (v w fv:V) (a:Addr) (n D F:Int) (b:Bk) (g fr:Gr) (pl:Pl) (k:Str),vs=[v,w,.ref a,fv,.int n]/\(hJ K C H v b/\b.Ok)/\(GA K H w g/\g.Ok D/\g.deep<=60/\g.parts<=2000/\Gr.Named b.names g)/\(GA K H fv fr/\1<=F/\fr.Ok F/\fr.deep<=4/\fr.parts<=4)/\SqT K H a (pl.map fun n:Nat=>V.int (n:Int))/\Gr.bareAt g pl=some k/\pl.length < m/\0<=n /\
 ∀ (t:Addr) (u p:V) (H':Hp),SB [] H H'->SqT K H' t [u,p]->GA K H' u (Gr.stk b n fr pl g).1->Dp K H' p (xP (Gr.stk b n fr pl g).2)->Q (.ref t) H'
def VT (g:Gr):Prop:=g.parts<=2000/\g.deep<=60
def zds (K:Qn) (C NP NR NN TG:Addr):Sp:=fun vs H Q E=>∃ (v w x y:V) (a:Addr) (b:Bk) (g:Gr) (D:Int) (xs:List V) (os:List (Option Int)) (ro so:Option Int),vs=[v,w,.ref a,x,y]/\(hJ K C H v b/\b.Ok)/\(GA K H w g/\g.Ok D/\g.deep<=60/\g.parts<=2000/\Gr.Named b.names g)/\(SqT K H a xs/\Whs K H xs os)/\Wh K H x ro/\Wh K H y so/\(∀ n,so=some n->n < 2 ^ 900) /\
 ((∀ pl k,os=ik pl->Gr.bareAt g pl ≠ some k)->∀ H',SB [] H H'->E (.ref NP) none H') /\
 ∀ (pl:Pl) (k:Str) (kd:Kd),os=ik pl->Gr.bareAt g pl=some k->b.get k=some kd ->
  ((∀ i:Nat,ro=some (i:Int)->(lN::kd.rs)[i]?=none)->∀ H',SB [] H H'->E (.ref NR) none H') /\
  ∀ (i:Nat) (r:Ru),ro=some (i:Int)->(lN::kd.rs)[i]?=some r ->
   ((∀ n,so=some n->n < 0)->∀ H',SB [] H H'->E (.ref NN) none H') /\
   ∀ n:Int,so=some n->0<=n ->
    (¬ VT (Gr.stk b n (Gr.fM r n) pl g).1->∀ H',SB [] H H'->E (.ref TG) none H') /\
    (VT (Gr.stk b n (Gr.fM r n) pl g).1->∀ (t:Addr) (u p:V) (H':Hp),SB [] H H'->H t=none->SqT K H' t [u,p]->GA K H' u (Gr.stk b n (Gr.fM r n) pl g).1->Dp K H' p (xP (Gr.stk b n (Gr.fM r n) pl g).2)->Q (.ref t) H')
namespace Gr
variable {b:Bk} {n:Int} {C F:Int} {g fr:Gr}
theorem Bp (hn:0<=n) (hF:1<=F) (vy:fr.Ok F) {i:Nat} {r:Pl} {p:Tr × Int} {k:Str} (ho:g.Ok C) (hr:r ≠ []) (e:g.ps[i]?=some p) (h:bareAt g (i::r)=some k):(∃ D,(xi b n fr r g p).Ok D)/\∃ m,(chg b n fr r p,m) ∈ (xi b n fr r g p).ps:=by
 have h1:=kA (b:=b) hn hF vy ho h;rw [cY e hr] at h1;refine ⟨⟨_,h1⟩,?_⟩;have h2:1<=S (xi b n fr r g p) (chg b n fr r p):=by
  show 1<=S (ki _ _) _;rw [pq,zy,if_pos rfl];have:=fG (iC ho (t:=p.1) (m:=1) (by omega)) (chg b n fr r p);have:=(Bk.kS b p.1.1 hn).1;omega
 obtain ⟨m,hm,_⟩:=Mz h1 h2;exact ⟨m,hm⟩
end Gr
theorem Gr.vj:∀ {os:List (Option Int)} {g:Gr} {a:Str} {t:Tr},os ≠ []->lk (a,g) os=some t->∃ pl,os=ik pl/\(t.2=.nil->Gr.bareAt g pl=some t.1)
 | [],_,_,_,h,_=>absurd rfl h
 | o::r,g,a,t,_,h=>by
  rw [lk] at h;obtain ⟨u,hu,h2⟩:=Option.bind_eq_some_iff.mp h;cases o with
  | none=>cases hu
  | some n =>
   change (if 0<=n then (g.ps[n.toNat]?).map (·.1) else none)=some u at hu
   by_cases h0:0<=n
   ·rw [if_pos h0] at hu;obtain ⟨p,ep,rfl⟩:=Kr hu;have en:some n=some ((n.toNat:Nat):Int):=by rw [Int.toNat_of_nonneg h0]
    by_cases hr:r=[]
    ·subst hr;have e:p.1=t:=Yd h2;refine ⟨[n.toNat],by rw [en]; rfl,fun z=>?_⟩;rw [Gr.bareAt,ep];simp only [if_true];rw [e,if_pos z]
    ·obtain ⟨pl,e,h3⟩:=vj (a:=p.1.1) (g:=p.1.2) hr h2;refine ⟨n.toNat::pl,by rw [e,en]; rfl,fun z=>?_⟩;have hp:pl ≠ []:=fun z=>hr (by rw [e,z]; rfl);rw [Gr.bareAt,ep];simp only [if_neg hp];exact h3 z
   ·rw [if_neg h0] at hu; cases hu
theorem Gr.fE {ns:List Str}:∀ {pl:Pl} {g:Gr} {k:Str},Gr.Named ns g->Gr.bareAt g pl=some k->k ∈ ns
 | [],_,_,_,h=>nomatch h
 | i::r,g,k,hn,h=>by
  by_cases hr:r=[]
  ·subst hr;obtain ⟨p,e,e2⟩:=Gr.bT h;have:=(Gr.aR.mp hn p (Qu e)).1
   rwa [e2] at this
  ·obtain ⟨p,e,h2⟩:=Gr.bC hr h;exact fE (Gr.aR.mp hn p (Qu e)).2 h2
theorem Whs.ints {K:Qn} {H:Hp}:∀ {pl:Pl} {xs:List V},Whs K H xs (ik pl)->xs=pl.map fun n:Nat=>V.int (n:Int)
 | [],_,h=>by cases h; rfl
 | i::r,_,h=>by
  cases h with
  | cons h1 h2 =>
   rw [Whs.ints h2];rcases h1 with ⟨n,rfl,e⟩ | ⟨e,_⟩
   ·rw [<- Yd e]; rfl
   ·cases e
theorem Wh.int {K:Qn} {H:Hp} {v:V} {n:Int} (h:Wh K H v (some n)):v=.int n:=by
 rcases h with ⟨i,rfl,e⟩ | ⟨e,_⟩
 ·rw [Yd e]
 ·cases e
theorem P1 {kd:Kd} (h:∀ r ∈ kd.rs,dV r) {i:Nat} {r:Ru} (e:(lN::kd.rs)[i]?=some r):dV r:=by
 rcases Qv (Qu e) with rfl | hm
 ·exact ⟨trivial,trivial,Nat.zero_le _⟩
 ·exact h r hm
theorem Pz:∀ {p q:Pl},ik p=ik q->p=q
 | [],[],_=>rfl
 | [],_::_,h=>nomatch h
 | _::_,[],h=>nomatch h
 | i::r,j::s,h=>by
  obtain ⟨h1,h2⟩:=List.cons.inj (show some (i:Int)::ik r=some (j:Int)::ik s from h);have:=Yd h1;rw [Pz h2,show i=j by omega]
theorem Gr.C0:Wd (.tuple []):=⟨by decide +kernel,by decide +kernel⟩
theorem gm {σ:L2.St} {H:Hp} {Q:List V->Hp->Prop} (h:Q [] H):tNil σ H Q:=h
namespace Gr
theorem iE:∀ {bs:List (Tr × Int)} (x:Tr),(∀ p ∈ bs,0<=p.2)->0<=sumE bs x
 | [],_,_=>Kw _
 | p::r,x,h=>by
  have:=iE (bs:=r) x fun q hq=>h q (by simp [hq]);have:=h p (by simp);rw [oq]
  split <;> omega
end Gr
section
variable {γ:Type} [DecidableEq γ]
def wsum (f:γ->Int) (l:List (γ × Int)):Int:=match l with
 | []=>0
 | p::r=>f p.1*p.2+wsum f r
theorem QL (f:γ->Int):∀ as bs:List (γ × Int),wsum f (as++bs)=wsum f as+wsum f bs
 | [],bs=>by simp [wsum]
 | p::r,bs=>by show _+wsum f (r++bs)=_; rw [QL f r bs,wsum]; omega
theorem Ip (f:γ->Int) (t:γ):∀ l:List (γ × Int),wsum f l=f t*sumE l t+wsum f (l.filter fun p=>decide (p.1 ≠ t))
 | []=>by simp [wsum,sumE]
 | p::r=>by
  have ih:=Ip f t r;by_cases e:p.1=t
  ·rw [List.filter_cons_of_neg (by simpa using e)];show f p.1*p.2+wsum f r=f t*((if p.1=t then p.2 else 0)+sumE r t)+_;rw [if_pos e,Int.mul_add,e,ih]; omega
  ·rw [List.filter_cons_of_pos (by simpa using e)];show f p.1*p.2+wsum f r=f t*((if p.1=t then p.2 else 0)+sumE r t)+(f p.1*p.2+_);rw [if_neg e,Int.zero_add,ih]; omega
theorem Iq (t x:γ):∀ l:List (γ × Int),sumE (l.filter fun p=>decide (p.1 ≠ t)) x=if x=t then 0 else sumE l x
 | []=>by simp [sumE]
 | p::r=>by
  have ih:=Iq t x r;by_cases e:p.1=t
  ·rw [List.filter_cons_of_neg (by simpa using e),ih];by_cases hx:x=t
   ·rw [if_pos hx,if_pos hx]
   ·rw [if_neg hx,if_neg hx,oq,if_neg (by rw [e]; exact fun z=>hx z.symm),Int.zero_add]
  ·rw [List.filter_cons_of_pos (by simpa using e),oq,ih];by_cases hx:x=t
   ·rw [if_pos hx,if_pos hx,if_neg (by rw [hx]; exact e)]; rfl
   ·rw [if_neg hx,if_neg hx,oq]
theorem XO {p:γ × Int} {r:List (γ × Int)}:((p::r).filter fun q=>decide (q.1 ≠ p.1)).length<=r.length:=by
 rw [List.filter_cons_of_neg (by simp)]; exact List.length_filter_le _ _
theorem N3 (f:γ->Int):∀ (n:Nat) (as bs:List (γ × Int)),as.length+bs.length<=n->(∀ x,sumE as x=sumE bs x)->wsum f as=wsum f bs
 | n,[],[],_,_=>rfl
 | 0,p::r,bs,h,_=>by simp at h
 | 0,[],p::r,h,_=>by simp at h
 | n+1,p::r,bs,h,e=>by
  rw [Ip f p.1 (p::r),Ip f p.1 bs,e p.1,N3 f n ((p::r).filter fun q=>decide (q.1 ≠ p.1)) (bs.filter fun q=>decide (q.1 ≠ p.1)) ?_ fun x=>?_]
  ·have h1:=XO (p:=p) (r:=r);have h2:=List.length_filter_le (fun q:γ × Int=>decide (q.1 ≠ p.1)) bs;simp only [Yk] at h;omega
  ·rw [Iq,Iq,e]
 | n+1,[],p::r,h,e=>by
  rw [Ip f p.1 (p::r),Ip f p.1 [],<- e p.1,N3 f n (([]:List (γ × Int)).filter fun q=>decide (q.1 ≠ p.1)) ((p::r).filter fun q=>decide (q.1 ≠ p.1)) ?_ fun x=>?_]
  ·have h1:=XO (p:=p) (r:=r);simp only [Yk,List.length_nil,List.filter_nil] at h ⊢;omega
  ·rw [Iq,Iq,e]
end
namespace Gr
theorem rn (f:Tr->Int) (m:Int):∀ l:List (Tr × Int),wsum f (jH m l)=wsum f l*m
 | []=>by show (0:Int)=0*m; rw [Int.zero_mul]
 | p::r=>by
  show f p.1*(p.2*m)+wsum f (jH m r)=(f p.1*p.2+wsum f r)*m;rw [rn f m r,Int.add_mul,Int.mul_assoc]
end Gr
section
variable {prog:Program} {w:World} {A:Around} {E:Value->Shared->Prop} {st:Shared} {K:Qn} {e D:Addr} {oe:Obj} {dd:Option Obj}
theorem zdo (C:ExcC K D):PySem.W.findObj K D dd "__class__"=some (.bind (.builtin "getset_descriptor.__get__") (.builtin "object.__class__")):=by
 obtain ⟨cd,Ba,_⟩:=PySem.W.any_some C.hd;simp only [PySem.W.findObj,Ba,C.ha,C.hn,C.ht,Option.bind_some]
theorem zfw {Q:Option Value->Shared->Prop} (C:ExcC K D) (X:K.In st.heap) (I:PySem.W.InstAt st.heap e oe D dd) (q:Q (some (.ref D)) { st with toks:=st.toks+1 }):wpAny (model prog w) A (getAttr? (.ref e) "__class__") Q E st:=by
 have kf:=zdo (dd:=dd) C;obtain ⟨hp,gn,dc,tk,ows⟩:=st;have K0:=I.type (M:=model prog w);have K1:=PySem.W.looks_findIn (M:=model prog w) X C.hg;have K2:=PySem.W.looks_findIn (M:=model prog w) X C.hk;have K3:=PySem.W.looks_find (M:=model prog w) X I kf;have kb:Looks (model prog w) hp (isInstance (.ref e) (.type "BaseException")) true:=K0.andThen (PySem.W.looks_subIn X C.hs);have z2:(Value.builtin "BaseException.__getattribute__" == Value.builtin "object.__getattribute__")=false:=by decide +kernel
 have z1:(onTheHeap (Value.ref D)&&Value.builtin "BaseException.__getattribute__" == Value.builtin "object.__getattribute__")=false:=by rw [z2,Bool.and_false]
 unfold getAttr? getAttrBy? getAttrBy;refine Ke (wpAny_mkText (Ke (wpAny_attempt (wpAny_holding (Ke (K0.at (Ke (K1.at ?gb))))))))
 case gb =>
 show wpAny _ _ (if (onTheHeap (Value.ref D)&&Value.builtin "BaseException.__getattribute__" == Value.builtin "object.__getattribute__")=true then _ else _) _ _ _;rw [z1,if_neg Bool.false_ne_true];unfold getAttrByItsOwn hookBefore;refine Ke ?gc
 case gc =>
 rw [if_pos (show onTheHeap (Value.ref D)=true from rfl)];refine K2.at (Ke (wpAny_attempt (wpAny_holding ?gd)))
 case gd =>
 unfold callGetattribute;rw [show (false&&onTheHeap (Value.builtin "BaseException.__getattribute__"))=false from rfl,if_neg Bool.false_ne_true];unfold boundAndCalled;rw [PySem.F.excAttr_ValueError.ga.bind (.ref e)];refine Ke (wpAny_pure ?ge)
 case ge =>
 show wpAny _ _ (call (.builtin "BaseException.__getattribute__") [.ref e,.str "__class__" tk]) _ _ _;refine wpAny_call (codeAny_call_builtin PySem.F.excAttr_ValueError.ga.plain PySem.F.entry_bexc_ga ?gf)
 case gf =>
 refine @check_slot (model prog w) _ _ ⟨hp,gn,dc,tk+1,ows⟩ "BaseException.__getattribute__" "BaseException" "__getattribute__" (.ref e) [.str "__class__" tk] [] _ (by decide +kernel) (by decide +kernel) kb (PySem.F.args_bexc_ga (.ref e) (.str "__class__" tk)) ?gg
 case gg =>
 unfold Builtin.«object.__getattribute__»;refine Ke (wpAny_of_eq (a:=((Value.ref e:Value),[Value.str "__class__" tk])) (by first | rfl | (simp only [slotArgs]; rfl)) ?gh)
 case gh =>
 refine Ke (wpAny_pure (Ke (K0.at (Ke (K3.at ?gi)))))
 case gi =>
 show wpAny _ _ (holding [Value.builtin "object.__class__"] (call (.builtin "getset_descriptor.__get__") [.builtin "object.__class__",.ref e,.ref D]) >>= ret) _ _ _;refine Ke (wpAny_holding (wpAny_call (PySem.W.class_get (s:=⟨hp,gn,dc,tk+1,ows⟩) (ox:=oe) (od:=dd) X I C.hm ?gj)))
 case gj =>
 refine wpAny_pure ?gk
 case gk =>
 show wpAny _ _ (handedOut (.ref D)) _ _ _;rw [handedOut_of (v:=.ref D) rfl]
 first
  | exact wpAny_pure (wpAny_pure q)
  | exact wpAny_pure q
  | exact wpAny_pure (Ke (wpAny_pure (wpAny_pure q)))
theorem zfj (C:ExcC K D):PySem.W.KitX K (.ref e) (.ref D) (fun h=>PySem.W.InstAt h e oe D dd) where
 ty:=fun _ _ _ I=>I.type
 it:=fun M h X _=>by
  obtain ⟨cd,Ba,_⟩:=PySem.W.any_some C.hd;unfold PySem.W.clsIn at Ba
  split at Ba
  ·next ho=>exact fun A' Q' E' s' k q=>by unfold isType loadHead; exact Ke (wpAny_loadPart (k _ _ (X _ _ ho)) (wpAny_pure q))
  ·cases Ba
 ne:=fun h tp dd' cf n sl X htp=>Bool.eq_false_iff.mpr fun q=>by
  obtain ⟨cd,Ba,_⟩:=PySem.W.any_some C.hd;cases Value.ref.inj (beq_iff_eq.mp q);unfold PySem.W.clsIn at Ba
  split at Ba
  ·next ho=>exact absurd ((X _ _ ho).symm.trans htp) (fun z=>by cases z)
  ·cases Ba
 ca:=fun X I k=>zfw C X I k
end
def ExD (H:Hp) (d:Option Addr):Prop:=d=none\/∃ dd fs,d=some dd/\H dd=some (.xd fs)
def GJ (K:Qn) (a:Addr) (cls:Value) (d:Option Addr):List V->Hp->VK->Prop:=fun xs H Q=>∃ (D:Addr) (c:V) (cv:Value) (b:Bool),cls=.ref D/\ExcC K D/\ExD H d/\xs=[.ref a,c]/\(∀ u,RelV c u->u=cv)/\PySem.W.kitOne K (.ref D) cv=some b/\Q (.bl b) H
def C6 (K:Qn) (a:Addr) (cls:Value) (d:Option Addr) (f:Str) (te:TE):TE:=fun σ H Q=>te σ H fun x H1=>∃ (C dd:Addr) (fs:List (Str × V)) (v:V),x=.ref a/\cls=.ref C/\ExcC K C/\PySem.W.findIn K (.ref C) f=some none/\d=some dd/\H1 dd=some (.xd fs)/\fs.lookup f=some v/\Q v H1
section
variable {X:Cx} {a:Addr} {oe:Obj} {cls:Value} {d:Option Addr}
theorem zg0 {D:Addr} {pins:List (Addr × Obj)} {σ:L2.St} {H:Hp} (hm:(a,oe) ∈ X.pn) (hz:Zc (.ref D) d oe) (hf:∃ vs,oe.data=.fields vs) (I:Inv X pins σ H s) (hd:ExD H d):∃ dd,PySem.W.InstAt s.heap a oe D dd:=by
 obtain ⟨h,_⟩:=I.pin (a,oe) (List.mem_append.mpr (.inl hm));obtain ⟨vs,hv⟩:=hf;obtain ⟨h1,h2⟩:=hz;have nc:PySem.W.notCls oe=true:=by unfold PySem.W.notCls; rw [hv]
 rcases hd with e | ⟨dd,fs,e,g⟩
 ·exact ⟨none,h,h1,nc,by rw [h2,e]; trivial⟩
 ·obtain ⟨mA,Ab,_⟩:=(show ObjOk X.prog X.w H s.heap dd (.xd fs) from I.hok dd _ g);obtain ⟨od,ho,_⟩:=lookIn_ns Ab;exact ⟨some od,h,h1,nc,by rw [h2,e]; exact ho⟩
theorem Og (hm:(a,oe) ∈ X.pn) (hz:Zc cls d oe) (hf:∃ vs,oe.data=.fields vs):CallR X (.builtin "isinstance") (GJ X.K a cls d):=by
 intro pins s σ H xs us Q I r h;obtain ⟨D,c,cv,b,ec,C,hd,rfl,hcv,e,q⟩:=h;subst ec;obtain ⟨u1,u2,rfl,r1,r2⟩:=vals2 r;cases (show u1=Value.ref a from r1);cases hcv _ r2;obtain ⟨dd,J⟩:=zg0 hm hz hf I hd;exact PySem.W.kia_one (zfj C) I.kIn J e (fun z=>nomatch z) fun tk=>⟨.bl b,H,I.kept (t':=tk) fun _ _ z=>z,rfl,q⟩
theorem Vw {te:TE} {pos:Pos} {n:Str} (hm:(a,oe) ∈ X.pn) (hz:Zc cls d oe) (hf:∃ vs,oe.data=.fields vs) (he:PE X e te) (hb:attributeBase e n X.env (eval e X.env)=eval e X.env:=by rfl):PE X (.Attribute e n pos) (C6 X.K a cls d n te):=by
 refine ⟨fun pins st σ H Q I h=>attr_of hb (thn (he.run pins st σ H _ I h) fun u s1 hh=>?_)⟩;obtain ⟨x,H1,J1,rx,C,dd,fs,v,ex,ec,T,wY,ed,hx,l,q⟩:=hh;subst ex ec ed;cases (show u=Value.ref a from rx);obtain ⟨ga,_⟩:=J1.pin (a,oe) (List.mem_append.mpr (.inl hm));obtain ⟨mA,Ab,hr⟩:=(show ObjOk X.prog X.w H1 s1.heap dd (.xd fs) from J1.hok dd _ hx);obtain ⟨od,ho,hl⟩:=lookIn_ns Ab;obtain ⟨w,hw,Yq⟩:=RelO.some_of (v:=v) (o:=mA n) (by rw [<- l]; exact hr n);obtain ⟨vs,hv⟩:=hf;have nc:PySem.W.notCls oe=true:=by unfold PySem.W.notCls; rw [hv]
 have ins:PySem.W.InstAt s1.heap a oe C (some od):=⟨ga,hz.1,nc,by rw [hz.2]; exact ho⟩;exact HandSPX.exc_get J1.kIn ins T.hg T.hk T.hs (PySem.W.findObj_own T.hd wY rfl (by rw [hl,hw])) (handed_of Yq) ⟨v,H1,J1.tok _,Yq,q⟩
end
structure ErrsM (K:Qn) (mg:Str->Option Value) (c:Str->Addr) (cX names kinds:List Str):Prop where
 glo:∀ n ∈ names,mg n=some (.ref (c n))
 xu:mg "FellError"=some (.ref (c "FellError"))
 ve:mg "ValueError"=none
 exc:∀ n ∈ cX,ExcC K (c n)
 exm:∀ n ∈ cX,PySem.W.exmOne K (.ref (c n)) (.ref (c "FellError"))=some true
 RU:∀ n ∈ cX,PySem.W.kitOne K (.ref (c n)) (.type "ValueError")=some true
 YN:∀ n ∈ cX,∀ m ∈ names,PySem.W.kitOne K (.ref (c n)) (.ref (c m))=some (decide (n=m))
 Yz:∀ n ∈ kinds,PySem.W.findIn K (.ref (c n)) "kind"=some none
 exo:∀ n ∈ cX,∀ m ∈ names,PySem.W.exmOne K (.ref (c n)) (.ref (c m))=some (decide (n=m))
theorem ErrsM.is {K:Qn} {c:Str->Addr} {names:List Str} (T:ErrsM K mg c cX names kinds) {n:Str} (hn:n ∈ cX) (h:n ∈ names):PySem.W.kitOne K (.ref (c n)) (.ref (c n))=some true:=(T.YN n hn n h).trans (by rw [Ya rfl])
theorem ErrsM.wQ {K:Qn} {c:Str->Addr} {names:List Str} (T:ErrsM K mg c cX names kinds) {n m:Str} (hn:n ∈ cX) (h:m ∈ names) (k:n ≠ m):PySem.W.kitOne K (.ref (c n)) (.ref (c m))=some false:=(T.YN n hn m h).trans (by rw [Qz k])
def Mn (K:Qn) (c:Str->Addr) (cX names:List Str):Bool:=cX.all fun n=>Pp K (c n)&&(decide (PySem.W.exmOne K (.ref (c n)) (.ref (c "FellError"))=some true)&&(decide (PySem.W.kitOne K (.ref (c n)) (.type "ValueError")=some true)&&names.all fun m=>decide (PySem.W.kitOne K (.ref (c n)) (.ref (c m))=some (decide (n=m)))&&decide (PySem.W.exmOne K (.ref (c n)) (.ref (c m))=some (decide (n=m)))))
theorem zf4 {K:Qn} {c:Str->Addr} {names:List Str} (h:Mn K c cX names=true) (g:∀ n ∈ names,mg n=some (.ref (c n))) (f:mg "FellError"=some (.ref (c "FellError"))) (v:mg "ValueError"=none) (k:∀ n ∈ kinds,PySem.W.findIn K (.ref (c n)) "kind"=some none):ErrsM K mg c cX names kinds:=by
 have hh:∀ n ∈ cX,Pp K (c n)=true/\PySem.W.exmOne K (.ref (c n)) (.ref (c "FellError"))=some true/\PySem.W.kitOne K (.ref (c n)) (.type "ValueError")=some true/\∀ m ∈ names,PySem.W.kitOne K (.ref (c n)) (.ref (c m))=some (decide (n=m))/\PySem.W.exmOne K (.ref (c n)) (.ref (c m))=some (decide (n=m)):=fun n hn=>by
  have:=List.all_eq_true.mp h n hn;simp only [Bool.and_eq_true,decide_eq_true_eq,List.all_eq_true] at this;exact this
 exact ⟨g,f,v,fun n hn=>zdl (hh n hn).1,fun n hn=>(hh n hn).2.1,fun n hn=>(hh n hn).2.2.1,fun n hn m hm=>((hh n hn).2.2.2 m hm).1,k,fun n hn m hm=>((hh n hn).2.2.2 m hm).2⟩
namespace Lad
theorem fT {l k:Lad} (e:l.enc=k.enc):l=k:=by
 have h:=bc l k;rw [<- e,bc] at h;by_cases z:l=k
 ·exact z
 ·rw [Qz z,Ya rfl] at h; cases h
def eI (x:Lad) (xs:List Lad):Lad:=xs.foldl (fun a y=>if a.lt y=true then y else a) x
theorem mD:∀ (xs:List Lad) (x:Lad),maxD x.enc (xs.map enc)=(eI x xs).enc
 | [],x=>rfl
 | y::r,x=>by
  show maxD (if dataLt x.enc y.enc=true then y.enc else x.enc) (r.map enc)=(eI (if x.lt y=true then y else x) r).enc;by_cases h:x.lt y=true
  ·rw [if_pos h,if_pos (show dataLt x.enc y.enc=true from h)]; exact mD r y
  ·rw [if_neg h,if_neg (show ¬ dataLt x.enc y.enc=true from h)]; exact mD r x
theorem iJ:∀ (xs:List Lad) (x:Lad),eI x xs ∈ x::xs
 | [],x=>bM ..
 | y::r,x=>by
  show eI (if x.lt y=true then y else x) r ∈ _;by_cases h:x.lt y=true
  ·rw [if_pos h]; exact bR _ (iJ r y)
  ·rw [if_neg h];rcases Qv (iJ r x) with e | e
   ·rw [e]; exact bM ..
   ·exact bR _ (bR _ e)
theorem jU:∀ (xs:List Lad) (x:Lad),∀ y ∈ x::xs,(eI x xs).lt y=false
 | [],x,y,hy=>by rw [Qy hy]; exact lt_irrefl _
 | z::r,x,y,hy=>by
  show (eI (if x.lt z=true then z else x) r).lt y=false;by_cases h:x.lt z=true
  ·rw [if_pos h];have g:=jU r z;rcases Qv hy with rfl | hy
   ·cases e:(eI z r).lt y with
    | false=>rfl
    | true =>
     have:=lt_trans _ _ _ e h;rw [g z (bM ..)] at this; cases this
   ·exact g y hy
  ·rw [if_neg h];have g:=jU r x;rcases Qv hy with rfl | hy
   ·exact g _ (bM ..)
   rcases Qv hy with rfl | hy
   ·cases e:(eI x r).lt y with
    | false=>rfl
    | true =>
     have h:=eq_false_of_ne_true h;have gx:=g x (bM ..);by_cases e1:x=y
     ·subst e1; rw [gx] at e; cases e
     ·have:=lt_trans _ _ _ e (fb x y e1 h);rw [gx] at this; cases this
   ·exact g y (bR _ hy)
end Lad
section
variable {prog:Program} {w:World} {A:Around} {E:Value->Shared->Prop} {s:Shared}
theorem zho {l:Addr} {vs:Array Value} {x:PyData} {xs:List PyData} {as:List Addr} {Q:Value->Shared->Prop} (hh:A.handled=none) (hl:s.heap.IsList l vs) (hr:ReadsAll s.heap vs.toList (x::xs) as) (ha:AlikeAll (x::xs)) (hu:A.units+1+PyData.depthAll (x::xs) < cLine)
  (h:∀ (i:Nat) v h' tk,vs[i]?=some v->(x::xs).getD i .none=maxD x xs->(∀ b o,s.heap.get? b=some o->h'.get? b=some o)->Q v { s with heap:=h',toks:=tk }) :
  wpAny (model prog w) A (call (.builtin "max") [.ref l]) Q E s:=by
 have hn:vs.size=xs.length+1:=readsAll_len hr;refine call_max_walkH (iter_listW (A:=A.in1) hh hl fun s2 e W st hfp hw hk=>?_);refine ⟨_,_,_,_,_,_,_,s.heap,_,Ja,W,st,hfp,by omega,hw,hk,cmpIn_gt (A:=A.in1) hr ha (by show A.units+1+_ < _; exact hu),fun v s' hP m=>?_⟩;obtain ⟨h',tk,rfl,xJ⟩:=moved_old e rfl m;have e1:vs.size-1=xs.length:=by omega
 have e2:=(argBest_fold (fun a b=>dataLt b a) PyData.none x xs xs.length (Yc _)).2;rw [Yh] at e2;refine h _ v h' tk hP ?_ xJ;rw [e1];unfold maxD;exact e2
end
def zm9 (K:Qn):List V->Hp->VK->Prop:=fun vs H Q=>∃ (a:Addr) (xs:List V) (l:Lad) (ls:List Lad),vs=[V.ref a]/\SqL K H a xs/\Bears K H Lad.enc xs (l::ls)/\(∀ k ∈ l::ls,k.deep<=45)/\∀ x:V,LA K H x (Lad.eI l ls)->Q x H
theorem Vals.at':∀ {vs:List V} {us:List Value} {i:Nat} {u:Value},Vals vs us->us[i]?=some u->∃ v,vs[i]?=some v/\RelV v u
 | _,_,0,u,.cons r _,h=>⟨_,rfl,by have e:=Yd (show some _=some u from h); subst e; exact r⟩
 | _,_,i+1,u,.cons _ t,h=>Vals.at' (i:=i) t (by simpa using h)
 | _,_,i,u,.nil,h=>by simp at h
theorem zfc {X:Cx} (hc:X.calm=true) (hu:X.A.units+110 < cLine):CallR X (.builtin "max") (zm9 X.K):=by
 intro pins s σ H vs us Q I r h;obtain ⟨a,xs,l,ls,rfl,hs,hb,hd,q⟩:=h;obtain ⟨cf,rv,hl,_⟩:=I.list hs;rw [Vals.ref1 r];obtain ⟨_,e2⟩:=Fy I hb rv;obtain ⟨as,ra⟩:=each_readsAll Lad.enc e2;have al:AlikeAll ((l::ls).map Lad.enc):=⟨fun x hx y hy=>by
  obtain ⟨p,_,rfl⟩:=Qx hx;obtain ⟨p2,_,rfl⟩:=Qx hy;exact Lad.dH p p2,fun x hx=>by
  obtain ⟨p,_,rfl⟩:=Qx hx;exact Lad.y8 p⟩
 have ybi:PyData.depthAll ((l::ls).map Lad.enc)<=91:=Xe fun d Af=>by
  obtain ⟨p,hp,rfl⟩:=Qx Af;have:=hd p hp;have:=Lad.cz p;omega
 refine zho (vs:=cf.toArray) (x:=l.enc) (xs:=ls.map Lad.enc) (as:=as) (I.ok.hd hc) hl.isList (by simpa using ra) al (by show X.A.units+1+PyData.depthAll ((l::ls).map Lad.enc) < cLine; omega) fun i u h' tk hi e hk=>?_;obtain ⟨v,ev,rvu⟩:=Vals.at' (i:=i) rv (by simpa using hi);obtain ⟨p,ep,hp⟩:=hb.get ev;have e3:p.enc=(Lad.eI l ls).enc:=by
  rw [<- Lad.mD,<- e,show (l.enc::ls.map Lad.enc)=(l::ls).map Lad.enc from rfl,List.getD_eq_getElem?_getD,List.getElem?_map,ep]
  rfl
 have e4:=Lad.fT e3;exact ⟨v,H,I.kept hk,rvu,q v (by rw [<- e4]; exact hp)⟩
def fc (w:Bool) (o l:Lad):Lad:=if w=true then Lad.spd o l else Lad.gU o l
def Bk.wide (b:Bk) (n:Str):Bool:=match b.get n with
 | some k=>k.w
 | none=>false
theorem Bk.rC {n:Str} {k:Kd} (h:b.get n=some k):b.wide n=k.w:=by unfold Bk.wide; rw [h]
namespace Gr
def rkT (b:Bk) (ρ:Str->Lad):Gr->List Lad
 | .nil=>[]
 | .cons k g m r=>Lad.dX (fc (b.wide k) (ρ k) (Lad.aY (rkT b ρ g))) m::rkT b ρ r
def rk (b:Bk) (ρ:Str->Lad) (g:Gr):Lad:=Lad.aY (rkT b ρ g)
def hQ (b:Bk) (ρ:Str->Lad) (t:Tr):Lad:=fc (b.wide t.1) (ρ t.1) (rk b ρ t.2)
variable {b:Bk} {ρ:Str->Lad} {C:Int}
theorem mu:∀ g:Gr,rkT b ρ g=g.ps.map fun p=>Lad.dX (hQ b ρ p.1) p.2
 | .nil=>rfl
 | .cons k g m r=>by
  show _::rkT b ρ r=_::r.ps.map _;rw [mu r]; rfl
theorem rR (g:Gr):rk b ρ g=Lad.aY (g.ps.map fun p=>Lad.dX (hQ b ρ p.1) p.2):=by unfold rk; rw [mu]
theorem kY (ls:List Lad) (x:Lad):Lad.S (Lad.aY ls) x=(ls.map fun l=>Lad.S l x).sum:=by
 have e:Lad.S (Lad.aY ls) x=Lad.aK (ls.flatMap Lad.ps) x:=by
  unfold Lad.aY Lad.S;rw [Lad.aQ,Lad.lY,Lad.je (Lad.bI _)]
 rw [e];clear e
 induction ls with
 | nil=>rfl
 | cons l r ih=>rw [List.flatMap_cons,Lad.bQ,ih]; rfl
theorem sT (g:Gr) (x:Lad):Lad.S (rk b ρ g) x=wsum (fun t=>Lad.S (hQ b ρ t) x) g.ps:=by
 rw [rR,kY]
 induction g.ps with
 | nil=>rfl
 | cons p r ih =>
  rw [Ky,Ky,List.sum_cons,ih,Lad.vQ]
  rfl
end Gr
structure LFit (l:Lad):Prop where
 deep:l.deep<=25
 parts:l.parts<=900
 num:∀ p ∈ l.ps,0<=p.2/\p.2 < 2 ^ 2000
def Gr.qR (b:Bk) (ρ:Str->Lad) (ns:List Str):Gr->Prop
 | .nil=>True
 | .cons k g m r=>(k ∈ ns/\k ∈ b.names/\ρ k ≠ .nil/\LFit (ρ k)/\LFit (Gr.rk b ρ g)/\LFit (Gr.hQ b ρ (k,g))/\0<=m/\m < 2 ^ 2000/\((Gr.rkT b ρ (.cons k g m r)).flatMap Lad.ps).length<=900)/\Gr.qR b ρ ns g/\Gr.qR b ρ ns r
def qQ (K:Qn) (H:Hp) (d:Addr) (ρ:Str->Lad) (ns:List Str):Prop:=∃ us:List V,H d=some (.dK (List.zipWith (fun (n:Str) (u:V)=>((Sum.inr n:Key),u)) ns us))/\Bears K H Lad.enc us (ns.map ρ)
theorem V1 {K:Qn} {H:Hp} {ρ:Str->Lad} {n:Str}:∀ {ns:List Str} {us:List V},Bears K H Lad.enc us (ns.map ρ)->n ∈ ns->∃ u,valV (List.zipWith (fun (n:Str) (u:V)=>((Sum.inr n:Key),u)) ns us) (Sum.inr n)=some u/\LA K H u (ρ n)
 | [],_,_,hn=>nomatch hn
 | m::r,us,h,hn=>by
  cases h with
  | @cons u tK _ _ h1 h2 =>
  by_cases e:m=n
  ·subst e;exact ⟨u,by simp [valV],h1⟩
  ·obtain ⟨v,h3,h4⟩:=V1 h2 (by rcases Qv hn with z | z; exact absurd z.symm e; exact z);refine ⟨v,?_,h4⟩;rw [List.zipWith_cons_cons];unfold valV;rw [List.find?_cons_of_neg (by simp only [decide_eq_true_eq]; exact fun z=>e (Sum.inr.inj z))];exact h3
theorem qQ.val {K:Qn} {H:Hp} {n:Str} (h:qQ K H d ρ ns) (hn:n ∈ ns):∃ u,DGet H d (.str n) (some u)/\LA K H u (ρ n):=by
 obtain ⟨us,h1,h2⟩:=h;obtain ⟨u,h3,h4⟩:=V1 h2 hn;exact ⟨u,iN h1 h3,h4⟩
theorem qQ.sb {K:Qn} {H H':Hp} {d:Addr} {ρ:Str->Lad} {ns:List Str} {ps:List Addr} (h:qQ K H d ρ ns) (s:SB ps H H') (hd:d ∉ ps):qQ K H' d ρ ns:=by
 obtain ⟨us,h1,h2⟩:=h;exact ⟨us,s.keep _ _ h1 hd,h2.sb s Lad.aj⟩
theorem qQ.ef {K:Qn} {H H':Hp} (h:qQ K H d ρ ns) (s:SB [] H H'):qQ K H' d ρ ns:=h.sb s aP
def gI (b:Bk) (ρ:Str->Lad) (r:Ru):Lad:=Lad.tu (Gr.rk b ρ r.1) (Gr.rk b ρ r.2)
def Bs (b:Bk) (ρ:Str->Lad) (ns:List Str) (r:Ru):Prop:=Gr.qR b ρ ns r.1/\Gr.qR b ρ ns r.2/\(Gr.rk b ρ r.1).deep<=24/\(Gr.rk b ρ r.2).deep<=24/\(Gr.rk b ρ r.1).parts<=390/\(Gr.rk b ρ r.2).parts<=390
def P0 (K:Qn) (C:Addr):Sp:=fun vs H Q _=>∃ (v u:V) (d:Addr) (b:Bk) (ρ:Str->Lad) (ns:List Str) (r:Ru),vs=[v,.ref d,u]/\hJ K C H v b/\b.length<=1000/\qQ K H d ρ ns/\Dp K H u (Ru.enc r)/\r.1.deep < 20/\r.2.deep < 20/\r.1.parts<=900/\r.2.parts<=900/\Bs b ρ ns r/\∀ (x:V) (H':Hp),SB [] H H'->LA K H' x (gI b ρ r)->Q x H'
theorem Px (b:Bk) (ρ:Str->Lad):gI b ρ (.nil,.nil)=Lad.cT:=by
 show Lad.tu (Gr.rk b ρ .nil) (Gr.rk b ρ .nil)=Lad.cT;have e:Gr.rk b ρ .nil=.nil:=by
  show Lad.ofPs (jn (Lad.lQ []))=.nil;have:Lad.lQ []=[]:=List.Perm.eq_nil (Lad.bI []);rw [this]; rfl
 rw [e];show Lad.fw .nil Lad.cT=Lad.cT;rw [Lad.zp];exact Lad.vO Lad.iD
theorem zfl (b:Bk) (ρ:Str->Lad) (ns:List Str):Bs b ρ ns (.nil,.nil):=by
 have e:Gr.rk b ρ .nil=.nil:=by
  show Lad.ofPs (jn (Lad.lQ []))=.nil;have:Lad.lQ []=[]:=List.Perm.eq_nil (Lad.bI []);rw [this]; rfl
 exact ⟨trivial,trivial,by show (Gr.rk b ρ .nil).deep<=24; rw [e]; decide,by show (Gr.rk b ρ .nil).deep<=24; rw [e]; decide,by show (Gr.rk b ρ .nil).parts<=390; rw [e]; decide,by show (Gr.rk b ρ .nil).parts<=390; rw [e]; decide⟩
structure OwnR (b:Bk) (ρ:Str->Lad):Prop where
 own:∀ k ∈ b,EndK b k.n->ρ k.n=Lad.eI Lad.cT (k.rs.map (gI b ρ))
 fit:∀ k ∈ b,EndK b k.n->∀ ns,(∀ n,n ∈ adj b k.n->n ∈ ns)->∀ r ∈ k.rs,Bs b ρ ns r
 deep:∀ k ∈ b,EndK b k.n->∀ r ∈ k.rs,(gI b ρ r).deep<=45
structure EndO (b:Bk) (es:List Str):Prop where
 nd:es.Nodup
 len:es.length<=8
 mem:∀ n,n ∈ es ↔ n ∈ b.names/\EndK b n
 ord:∀ (i:Nat) (n:Str),es[i]?=some n->∀ k ∈ adj b n,k ∈ es.take i
def QD (K:Qn) (C N:Addr):Sp:=fun vs H Q E=>∃ (v:V) (b:Bk),vs=[v]/\hJ K C H v b/\b.Ok/\∀ (l:Addr) (es:List Str) (H':Hp),SB [] H H'->H l=none->H' l=some (.lst (es.map V.str))->EndO b es->Q (.ref l) H'
def Xu (K:Qn) (C N:Addr):Sp:=fun vs H Q _=>∃ (v:V) (b:Bk) (ρ:Str->Lad),vs=[v]/\hJ K C H v b/\b.Ok/\OwnR b ρ/\∀ (d:Addr) (es:List Str) (H':Hp),SB [] H H'->H d=none->qQ K H' d ρ es->EndO b es->Q (.ref d) H'
theorem qQ.put {K:Qn} {H:Hp} {n:Str} (h:qQ K H d ρ ns) (hn:n ∉ ns) (hl:ns.length<=1000) (hx:LA K H x (ρ n)):∃ H',DPut H d (.str n) x H'/\SB [d] H H'/\qQ K H' d ρ (ns++[n]):=by
 obtain ⟨us,h1,h2⟩:=h;have jy:=sizeLine_eq;have ul:us.length=ns.length:=by rw [h2.length,Ye]
 have t:=SB.kE (ps:=[d]) h1 (by simp) (.dK (putK (List.zipWith (fun (n:Str) (u:V)=>((Sum.inr n:Key),u)) ns us) (Sum.inr n) x));have e:putK (List.zipWith (fun (n:Str) (u:V)=>((Sum.inr n:Key),u)) ns us) (Sum.inr n) x=List.zipWith (fun (n:Str) (u:V)=>((Sum.inr n:Key),u)) (ns++[n]) (us++[x]):=by
  rw [Ii fun p hp z=>?_,List.zipWith_append (by omega)]
  ·rfl
  ·clear t h1 h2 ul
   induction ns generalizing us with
   | nil=>cases hp
   | cons m r ih =>
    cases us with
    | nil=>cases hp
    | cons u us =>
     rw [List.zipWith_cons_cons] at hp;rcases Qv hp with rfl | hp
     ·exact hn (List.mem_cons.mpr (.inl (Sum.inr.inj z).symm))
     ·exact ih (fun h=>hn (bR _ h)) (by simp at hl; omega) us hp
 refine ⟨_,DPut.k (k:=Sum.inr n) h1 (by rw [List.length_zipWith]; omega),t,us++[x],?_,?_⟩
 ·rw [Qt,e]
 ·rw [Yj];exact (h2.sb t Lad.aj).append (.cons (LA.sb hx t) .nil)
namespace Lad
theorem sN {n:Nat}:∀ {l:Lad},(∀ p ∈ l.ps,p.1.deep < n)->l.deep<=n
 | .nil,_=>Nat.zero_le _
 | .cons e m r,h=>by
  have h1:=h (e,m) (bM ..);have h2:=sN (l:=r) fun p hp=>h p (bR _ hp);have h1:e.deep < n:=h1;show max (1+e.deep) r.deep<=n;omega
theorem Aj {e:Lad} (hm:1<=m):dX (.cons e 1 .nil) m=.cons e m .nil:=by
 unfold dX;rw [if_neg (by omega)];show Lad.cons e (1*m) .nil=_;rw [Int.one_mul]
end Lad
theorem Xs {K:Qn} {H:Hp}:∀ ks:List Str,Bears K H PyData.str (ks.map V.str) ks
 | []=>.nil
 | k::r=>.cons (.str k) (Xs r)
section
variable {K:Qn} {H:Hp} {σ:L2.St} {i:Nat} {N:Addr} {n:Str} {zs:List V}
theorem tupI {as:TA} (h:as σ H fun xs H1=>xs.length<=sizeLine/\∀ p,H1 p=none->Q (.ref p) (upd H1 p (.tup xs))):tTup as σ H Q:=h
end
theorem zhs {n:Str} (hn:dE n) (hm:1<=m) (hC:m < C):(Gr.cons n .nil m .nil).Ok C:=⟨hn,trivial,hm,hC,trivial,by simp [Gr.ps]⟩
abbrev Vc:R2:=fun x y H Q=>∃ (z:Str) (n:Nat),x=.str z/\y=.int (n:Int)/\n<=1000/\z.length<=1000/\Q (.str (Txt.mul z (n:Int))) H
theorem zcq (hn:n<=1000) (hz:z.length<=1000):MulOk z (n:Int):=by
 have hp:z.length*n<=1000*1000:=Nat.mul_le_mul hz hn;refine ⟨?_,fun h1 _=>?_,fun h1 _=>?_⟩
 ·rw [Qz (by omega),Qz (by omega)]; rfl
 ·have:(z.length:Int)<=(2 ^ 63-1) / (n:Int):=by
   refine (Int.le_ediv_iff_mul_le (by omega)).mpr ?_;have:((z.length*n:Nat):Int)<=1000000:=by omega
   rw [Int.natCast_mul] at this;omega
  omega
 ·rw [Int.toNat_natCast];unfold Builtin.Str.tooLong;rw [Qz];have:=sizeLine_eq;omega
theorem zfh {X:Cx}:OpR X (binaryOp .Mult) Vc:=by
 intro pins s σ H x y v u Q I rx ry h;obtain ⟨z,n,rfl,rfl,hn,hz,q⟩:=h;obtain ⟨t,rfl⟩:=rx;obtain ⟨t',rfl⟩:=ry;exact PySem.SB.mul (zcq hn hz) (fun t' tk=>⟨.str (Txt.mul z (n:Int)),H,I.tok _,⟨_,Ja⟩,q⟩)
theorem Wz (c:Nat):∀ (n:Nat) (b:Array Nat),((List.replicate n (#[c]:Array Nat)).foldl (·++·) b).toList=b.toList++List.replicate n c
 | 0,b=>by simp
 | n+1,b=>by
  rw [List.replicate_succ,List.foldl_cons,Wz c n];simp [List.replicate_succ]
theorem mul_one (c n:Nat):(Txt.mul ⟨#[c]⟩ (n:Int)).cps.toList=List.replicate n c:=by
 unfold Txt.mul;by_cases h1:(n:Int) < 1
 ·rw [if_pos h1];have:n=0:=by omega
  subst this; rfl
 ·rw [if_neg h1];by_cases h2:((n:Int) == 1 || (⟨#[c]⟩:Str).length == 0)=true
  ·rw [if_pos h2];have:n=1:=by
    have e:((⟨#[c]⟩:Str).length == 0)=false:=rfl;rw [e,Bool.or_false] at h2;have:=beq_iff_eq.mp h2;omega
   subst this; rfl
  ·rw [if_neg h2,Int.toNat_natCast];exact (Wz c n #[]).trans (by simp)
theorem ju.mul {c:Nat} (n:Nat) (h:97<=c/\c<=122):ju (Txt.mul ⟨#[c]⟩ (n:Int)) n:=by
 refine ⟨?_,fun x hx=>?_⟩
 ·rw [mul_one]; simp
 ·rw [mul_one] at hx;rw [List.eq_of_mem_replicate hx]; exact h
theorem qQ.none {K:Qn} {H:Hp} {d:Addr} {ρ:Str->Lad} {ns:List Str} {n:Str} (h:qQ K H d ρ ns) (hn:n ∉ ns):DGet H d (.str n) none:=by
 obtain ⟨us,h1,h2⟩:=h;refine .inl ⟨_,Sum.inr n,.inl h1,Ja,?_⟩;unfold valV;have:List.find? (fun kv:Key × V=>decide (kv.1=Sum.inr n)) (List.zipWith (fun (n:Str) (u:V)=>((Sum.inr n:Key),u)) ns us)=Option.none:=by
  refine List.find?_eq_none.mpr fun x hx=>?_;have key:∀ (ns:List Str) (us:List V),x ∈ List.zipWith (fun (n:Str) (u:V)=>((Sum.inr n:Key),u)) ns us->∃ m ∈ ns,x.1=Sum.inr m:=by
   intro ns
   induction ns with
   | nil=>intro us h; cases h
   | cons m r ih =>
    intro us h;cases us with
    | nil=>cases h
    | cons u us =>
     rw [List.zipWith_cons_cons] at h;rcases Qv h with rfl | h
     ·exact ⟨m,bM ..,Ja⟩
     ·obtain ⟨m',h1,h2⟩:=ih us h;exact ⟨m',bR _ h1,h2⟩
  obtain ⟨m,hm,e⟩:=key ns us hx;rw [e];simp only [decide_eq_true_eq];exact fun z=>hn (by rw [<- Sum.inr.inj z]; exact hm)
 rw [this]; rfl
theorem KdAll.more {K:Qn} {H:Hp} {bad:List Addr} {R:Addr} (hR:H R=none):∀ {vs:List V} {b:Bk},KdAll K H bad vs b->KdAll K H (R::bad) vs b
 | _,_,.nil=>.nil
 | _,_,.cons a t=>by
  obtain ⟨t1,l,zs,e,h1,h2,h3,h4⟩:=a;refine .cons ⟨t1,l,zs,e,h1,h2,h3,fun z=>?_⟩ (KdAll.more hR t);rcases Qv z with z | z
  ·rw [z,hR] at h2; cases h2
  ·exact h4 z
theorem i8 (n:Nat):(1:Int)<=2 ^ n:=by
 have:(0:Int) < 2 ^ n:=Int.pow_pos (by decide);omega
theorem jx {a b:Nat} (h:a<=b):(2:Int) ^ a<=2 ^ b:=by
 obtain ⟨k,rfl⟩:=Nat.le.dest h;rw [Int.pow_add];have h1:=i8 a;have h2:=i8 k;have:=Int.mul_le_mul_of_nonneg_left h2 (show (0:Int)<=2 ^ a by omega);omega
theorem BB (a:Nat):(2:Int) ^ (a+1)=2*2 ^ a:=by rw [Int.pow_succ]; omega
namespace Lad
theorem jh {w:Bool} {l:Lad} (ho:o.Ok B) (hl:l.Ok C) (hB:1<=B) (hC:1<=C):(fc w o l).Ok (B+C):=by
 unfold fc;cases w with
 | false=>exact jo ho hl hB hC
 | true =>
  rw [if_pos rfl];cases o with
  | nil =>
   cases l with
   | nil=>trivial
   | cons e m r=>exact hl.mono (by omega)
  | cons e m r =>
   cases l with
   | nil=>exact ho.mono (by omega)
   | cons e2 m2 r2 =>
    show (Lad.cons (gU e (.cons e2 m2 r2)) 1 .nil).Ok _;exact ⟨jo ho.1 hl hB hC,by decide,by omega,trivial,by simp [ps]⟩
theorem iY (w:Bool) (o l:Lad):(fc w o l).parts<=o.parts+l.parts:=by
 unfold fc;cases w with
 | false=>exact gS o l
 | true =>
  rw [if_pos rfl];cases o with
  | nil=>cases l <;> simp [spd,parts]
  | cons e m r =>
   cases l with
   | nil=>show (Lad.cons e m r).parts<=_; omega
   | cons e2 m2 r2 =>
    have:=gS e (.cons e2 m2 r2);show 1+(gU e (.cons e2 m2 r2)).parts+0<=1+e.parts+r.parts+_;omega
theorem jW {w:Bool} {l:Lad} (ho:o.deep<=n) (hl:l.deep<=n):(fc w o l).deep<=n+1:=by
 unfold fc;cases w with
 | false=>exact Nat.le_succ_of_le (iP ho hl)
 | true =>
  rw [if_pos rfl];cases o with
  | nil=>cases l with
   | nil=>exact Nat.zero_le _
   | cons e m r=>exact Nat.le_succ_of_le hl
  | cons e m r =>
   cases l with
   | nil=>exact Nat.le_succ_of_le ho
   | cons e2 m2 r2 =>
    have he:e.deep<=n:=by
     have:max (1+e.deep) r.deep<=n:=ho;omega
    have:=iP he hl;show max (1+(gU e (.cons e2 m2 r2)).deep) 0<=n+1;omega
theorem dU (h:∀ l ∈ ls,l.Ok B) (hB:0<=B) (hD:B<=D) (hs:∀ x,(ls.map fun l=>S l x).sum < D):(aY ls).Ok D:=by
 have hd:(jn (lQ (ls.flatMap ps))).Pairwise (fun p q=>q.1.lt p.1=true):=vm (sL _);show (ofPs (jn (lQ (ls.flatMap ps)))).Ok D;rw [fB];refine ⟨fun p hp=>?_,hd⟩;have Gb:∀ (bs:List (Lad × Int)),bs.Pairwise (fun p q=>q.1.lt p.1=true)->∀ p ∈ bs,aK bs p.1=p.2:=by
  intro bs
  induction bs with
  | nil=>intro _ p hp; cases hp
  | cons q r ih =>
   intro Sj p hp;obtain ⟨e,m⟩:=q;obtain ⟨h1,h2⟩:=List.pairwise_cons.mp Sj;rw [aE];rcases Qv hp with hp | hp
   ·subst hp;rw [if_pos rfl,fA fun q hq=>fC (h1 q hq)];omega
   ·rw [if_neg (fun z=>fC (h1 p hp) z.symm),ih h2 p hp];omega
 have e1:aK (jn (lQ (ls.flatMap ps))) p.1=p.2:=Gb _ hd p hp;have e2:p.2=(ls.map fun l=>S l p.1).sum:=by
  rw [<- e1,<- Gr.kY];show _=aK (aY ls).ps p.1;unfold aY;rw [aQ]
 obtain ⟨q,hq,eq⟩:=By _ p hp;have qy:=(bI _).mem_iff.mp hq;obtain ⟨l,hl,OR⟩:=List.mem_flatMap.mp qy;have qo:=(bj.mp (h l hl)).1 q OR;have pos:∀ (ks:List Lad),(∀ l ∈ ks,l.Ok B)->0<=(ks.map fun l=>S l p.1).sum/\∀ l ∈ ks,S l p.1<=(ks.map fun l=>S l p.1).sum:=by
  intro ks
  induction ks with
  | nil=>intro _; exact ⟨Kw _,fun l hl=>nomatch hl⟩
  | cons k r ih =>
   intro hk;obtain ⟨i1,i2⟩:=ih fun l hl=>hk l (bR _ hl);have n1:=fG (hk k (bM ..)) p.1;rw [Ky,List.sum_cons];refine ⟨by omega,fun l hl=>?_⟩;rcases Qv hl with rfl | hl
   ·omega
   ·have:=i2 l hl; omega
 have s1:=(pos ls h).2 l hl;have s2:S l p.1=q.2:=by rw [<- eq]; exact iS (h l hl) OR
 have s3:=hs p.1;refine ⟨?_,by omega,by omega⟩;rw [<- eq]; exact qo.1.mono hD
theorem cK (ls:List Lad):(aY ls).parts<=(ls.map parts).sum:=by
 have e:∀ ls:List Lad,tot (ls.flatMap ps)=(ls.map parts).sum:=by
  intro ls
  induction ls with
  | nil=>rfl
  | cons l r ih =>
   rw [List.flatMap_cons,aX,ih,Ky,List.sum_cons];have:tot l.ps=l.parts:=by
    have:=aU l.ps;rw [aC] at this; exact this.symm
   rw [this]
 show (ofPs (jn (lQ (ls.flatMap ps)))).parts<=_;rw [aU,<- e];exact Yb (pN _) (Nat.le_of_eq (jG (bI _)))
theorem dG (h:∀ l ∈ ls,l.deep<=n):(aY ls).deep<=n:=by
 refine sN fun p hp=>?_;unfold aY at hp;rw [aQ] at hp;obtain ⟨q,hq,e⟩:=By _ p hp;obtain ⟨l,hl,OR⟩:=List.mem_flatMap.mp ((bI _).mem_iff.mp hq);have:=l.av q OR;have:=h l hl;rw [<- e]; omega
end Lad
namespace Gr
variable {b:Bk} {ρ σ:Str->Lad} {C:Int} {ns:List Str}
theorem qd:rk b ρ .nil=.nil:=by
 show Lad.ofPs (jn (Lad.lQ []))=.nil;have:Lad.lQ []=[]:=List.Perm.eq_nil (Lad.bI []);rw [this]; rfl
theorem kN:∀ {g:Gr},(∀ x ∈ g.within,ρ x.1.1=σ x.1.1)->rkT b ρ g=rkT b σ g
 | .nil,_=>rfl
 | .cons k g m r,h=>by
  have e1:=h ((k,g),m) (bM ..);have e2:=kN (g:=g) fun x hx=>h x (bR _ (jA _ hx));have e3:=kN (g:=r) fun x hx=>h x (bR _ (kP _ hx));show Lad.dX (fc (b.wide k) (ρ k) (Lad.aY (rkT b ρ g))) m::rkT b ρ r=_::rkT b σ r;rw [e2,e3,show ρ k=σ k from e1]
theorem rS {g:Gr} (h:∀ x ∈ g.within,ρ x.1.1=σ x.1.1):rk b ρ g=rk b σ g:=by unfold rk; rw [kN h]
theorem dR {P D:Nat} (hk:∀ n ∈ ns,(ρ n).parts<=P/\(ρ n).deep<=D):∀ {g:Gr},Named ns g->((rkT b ρ g).map Lad.parts).sum<=P*g.parts/\∀ l ∈ rkT b ρ g,l.deep<=D+g.deep
 | .nil,_=>And.intro (Nat.zero_le _) (fun l hl=>nomatch hl)
 | .cons k g m r,h=>by
  have qB:k ∈ ns:=h ((k,g),m) (bM ..);obtain ⟨g1,g2⟩:=dR hk (g:=g) fun x hx=>h x (bR _ (jA _ hx));obtain ⟨r1,r2⟩:=dR hk (g:=r) fun x hx=>h x (bR _ (kP _ hx));obtain ⟨k1,k2⟩:=hk k qB;have ip:(Lad.aY (rkT b ρ g)).parts<=P*g.parts:=Yb (Lad.cK _) g1;have DJ:(Lad.aY (rkT b ρ g)).deep<=D+g.deep:=Lad.dG g2;have lp:=Lad.iY (b.wide k) (ρ k) (Lad.aY (rkT b ρ g));have tp:=Lad.gJ (fc (b.wide k) (ρ k) (Lad.aY (rkT b ρ g))) m;have ld:=Lad.jW (w:=b.wide k) (o:=ρ k) (l:=Lad.aY (rkT b ρ g)) (n:=D+g.deep) (by omega) DJ;have e1:(Gr.cons k g m r).parts=1+g.parts+r.parts:=rfl;have e2:(Gr.cons k g m r).deep=max (1+g.deep) r.deep:=rfl;refine ⟨?_,fun l hl=>?_⟩
  ·show (Lad.dX (fc (b.wide k) (ρ k) (Lad.aY (rkT b ρ g))) m).parts+((rkT b ρ r).map Lad.parts).sum<=_;rw [e1,Nat.mul_add,Nat.mul_add,Nat.mul_one];omega
  ·rw [e2];rcases Qv hl with rfl | hl
   ·have:=Lad.gK (n:=D+g.deep+1) m ld;omega
   ·have:=r2 l hl; omega
end Gr
theorem zV {rs:List Ru} (hr:r ∈ rs) {x:Tr × Int} (hx:x ∈ Ru.within r):x.1.1 ∈ mE rs:=List.mem_flatMap.mpr ⟨r,hr,Ku ⟨x,hx,rfl⟩⟩
theorem zci {σ:Str->Lad} (h:∀ x ∈ Ru.within r,ρ x.1.1=σ x.1.1):gI b ρ r=gI b σ r:=by
 unfold gI;rw [Gr.rS fun x hx=>h x (jA _ hx),Gr.rS fun x hx=>h x (kP _ hx)]
def Bk.rules (b:Bk) (n:Str):List Ru:=match b.get n with
 | some k=>k.rs
 | none=>[]
def HZ (b:Bk) (k n:Str):Prop:=k ∈ adj b n/\EndK b n
theorem zda (b:Bk):WellFounded (HZ b):=by
 have h1:∀ n,EndK b n->Acc (HZ b) n:=fun n h=>by
  induction h with
  | mk _ ih=>exact ⟨_,fun y hy=>ih y hy.1⟩
 exact ⟨fun n=>⟨n,fun y hy=>h1 y (hy.2.next hy.1)⟩⟩
open Classical in
noncomputable def IV (b:Bk) (n:Str) (rec:∀ k,HZ b k n->Lad):Lad:=Lad.eI Lad.cT ((b.rules n).map (gI b fun k=>if h:HZ b k n then rec k h else Lad.cT))
noncomputable def cW (b:Bk):Str->Lad:=(zda b).fix (IV b)
theorem Od (ok:b.Ok) {k:Kd} (hk:k ∈ b) (he:EndK b k.n):cW b k.n=Lad.eI Lad.cT (k.rs.map (gI b (cW b))):=by
 unfold cW;rw [WellFounded.fix_eq];unfold IV;have er:b.rules k.n=k.rs:=by unfold Bk.rules; rw [Bk.gQ ok.nd hk]
 rw [er]
 congr 1
 refine List.map_congr_left fun r hr=>zci fun x hx=>?_;have hl:HZ b x.1.1 k.n:=⟨by rw [Bz ok hk]; exact zV hr hx,he⟩;rw [dif_pos hl]
theorem Gr.qR.mono {b:Bk} {ρ:Str->Lad} {ns ms:List Str} (h:∀ n ∈ ns,n ∈ ms):∀ {g:Gr},Gr.qR b ρ ns g->Gr.qR b ρ ms g
 | .nil,_=>trivial
 | .cons k g m r,hf=>by
  obtain ⟨⟨h1,h2,h3,h4,h5,h6,h7,h8,h9⟩,hg,hr⟩:=hf;exact ⟨⟨h _ h1,h2,h3,h4,h5,h6,h7,h8,h9⟩,Gr.qR.mono h hg,Gr.qR.mono h hr⟩
theorem QG {α:Type} {p q:α->Bool}:∀ {l:List α},(∀ x ∈ l,p x=true->q x=true)->(∃ x ∈ l,q x=true/\p x=false)->(l.filter p).length < (l.filter q).length
 | [],_,⟨x,hx,_⟩=>nomatch hx
 | a::r,h,⟨x,hx,hq,hp⟩=>by
  have hr:∀ x ∈ r,p x=true->q x=true:=fun y hy=>h y (bR _ hy);have le:∀ l:List α,(∀ x ∈ l,p x=true->q x=true)->(l.filter p).length<=(l.filter q).length:=by
   intro l
   induction l with
   | nil=>intro _; exact Yc _
   | cons c s ih =>
    intro hc;have:=ih fun y hy=>hc y (bR _ hy);cases Aa:p c with
    | true =>
     rw [List.filter_cons_of_pos Aa,List.filter_cons_of_pos (hc c (bM ..) Aa)];simpa using this
    | false =>
     rw [List.filter_cons_of_neg (by simp [Aa])];cases hqc:q c with
     | true=>rw [List.filter_cons_of_pos hqc,Yk]; omega
     | false=>rw [List.filter_cons_of_neg (by simp [hqc])]; exact this
  rcases Qv hx with rfl | hx
  ·rw [List.filter_cons_of_neg (by simp [hp]),List.filter_cons_of_pos hq,Yk];have:=le r hr;omega
  ·have ih:=QG hr ⟨x,hx,hq,hp⟩;cases Aa:p a with
   | true =>
    rw [List.filter_cons_of_pos Aa,List.filter_cons_of_pos (h a (bM ..) Aa)];simpa using ih
   | false =>
    rw [List.filter_cons_of_neg (by simp [Aa])];cases hqc:q a with
    | true=>rw [List.filter_cons_of_pos hqc,Yk]; omega
    | false=>rw [List.filter_cons_of_neg (by simp [hqc])]; exact ih
open Classical in
noncomputable def Bo (b:Bk) (n:Str):Nat:=(b.names.filter fun k=>decide (Rch b n k)).length
theorem PM (ok:b.Ok) {n k:Str} (he:EndK b n) (hk:k ∈ adj b n):Bo b k < Bo b n:=by
 refine QG (fun x _ hx=>?_) ⟨k,CW ok hk,?_,?_⟩
 ·simp only [decide_eq_true_eq] at hx ⊢;exact Rch.cons hk hx
 ·simp only [decide_eq_true_eq]; exact .one hk
 ·simp only [decide_eq_false_iff_not]; exact (he.next hk).uj
theorem WW {n:Str} (he:EndK b n) (hn:n ∈ b.names):Bo b n < b.length:=by
 have h:=QG (p:=fun k=>@decide (Rch b n k) (Classical.propDecidable _)) (q:=fun _=>true) (l:=b.names) (fun _ _ _=>rfl) ⟨n,hn,rfl,by simp only [decide_eq_false_iff_not]; exact he.uj⟩;have e:(b.names.filter fun _=>true).length=b.length:=by rw [List.filter_eq_self.mpr (fun _ _=>rfl),Ye]
 rw [e] at h;exact h
def Pm (m:Nat):Nat->Nat
 | 0=>2
 | c+1=>m*Pm m c+2
theorem VG (m:Nat):∀ c,2<=Pm m c
 | 0=>Yc _
 | c+1=>Nat.le_add_left _ _
theorem Pq (e:Lad):∀ bs:List (Lad × Int),((bs.filter fun x=>decide (x.1=e)).map (·.2)).sum=Lad.aK bs e
 | []=>rfl
 | (y,m)::r=>by
  rw [Lad.aE];by_cases he:y=e
  ·rw [List.filter_cons_of_pos (by simp [he]),Ky,List.sum_cons,Pq e r,if_pos he]
  ·rw [List.filter_cons_of_neg (by simp [he]),Pq e r,if_neg he]; omega
theorem PQ {K:Qn} {H:Hp} {σ:L2.St} (q:∀ (x:V) (H':Hp),SB [] H H'->LA K H' x Lad.cT->Q x H'):tTup (tCons (tTup (tCons (tTup tNil) (tCons (tC (.int 1)) tNil))) tNil) σ H Q:=by
 refine ⟨Z0,fun e ne=>?_⟩;have u1:=Jb ne (.tup []);have h1:=eZ u1;generalize upd H e _=H1 at u1 h1;refine ⟨dY,fun t nt=>?_⟩;have u2:=Jb nt (.tup [.ref e,.int 1]);have h2:=eZ u2;generalize upd H1 t _=H2 at u2 h2;refine ⟨lH,fun r nr=>?_⟩;have u3:=Jb nr (.tup [.ref t]);exact q _ _ ((u1.trans u2).trans u3) (HV (SqT.of Qt) (u3.aL (SqT.of h2)) ((Bx (SqT.of h1)).sb (u2.trans u3)))
theorem Lad.wB (x:Lad) (ys:List Lad) (y:Lad):Lad.eI x (ys++[y])=if (Lad.eI x ys).lt y=true then y else Lad.eI x ys:=by
 unfold Lad.eI;rw [List.foldl_append]; rfl
theorem XJ:∀ {bs:List (Tr × Int)},(∀ p ∈ bs,0<=p.2)->0<=bZ bs
 | [],_=>Kw _
 | p::r,h=>by
  have h1:=h p (bM ..);have h2:=XJ (bs:=r) fun q hq=>h q (bR _ hq);show 0<=p.2+bZ r;omega
theorem zbx {g k:Gr} (hg:(Gr.rk b ρ g).Ok B) (hk:(Gr.rk b ρ k).Ok C) (hB:1<=B) (hC:1<=C) (hj:(Gr.rk b ρ (Gr.tidy (g.ps++k.ps))).Ok D):(Gr.rk b ρ (Gr.tidy (g.ps++k.ps)))=(Gr.rk b ρ g).fw (Gr.rk b ρ k):=by
 refine Lad.ext hj (Lad.jm hg hk hB hC) fun x=>?_;rw [Lad.fV,Gr.sT,Gr.sT,Gr.sT,<- QL];refine N3 _ _ _ _ (Yc _) fun t=>?_;unfold Gr.tidy;rw [Gr.aQ,FA]
def zk (ns:List Str) (us:List V):List (Key × V):=List.zipWith (fun (n:Str) (u:V)=>((Sum.inr n:Key),u)) ns us
theorem PY:∀ {ns:List Str} {us:List V},us.length=ns.length->(zk ns us).map (·.1)=ns.map Sum.inr
 | [],[],_=>rfl
 | [],_::_,h=>by simp at h
 | _::_,[],h=>by simp at h
 | n::r,u::us,h=>by
  have:=PY (ns:=r) (us:=us) (by simpa using h);show Sum.inr n::(zk r us).map (·.1)=_;rw [this]; rfl
namespace Lad
def R (l:Lad):Prop:=∃ B:Int,1<=B/\l.Ok B
variable {a b c d l k o:Lad} {m n:Int} {w:Bool}
theorem R.nil:R .nil:=⟨1,by decide,trivial⟩
theorem R.fw (h:R l) (g:R k):R (l.fw k):=by
 obtain ⟨B,hB,h⟩:=h;obtain ⟨C,hC,g⟩:=g;exact ⟨B+C,by omega,jm h g hB hC⟩
theorem R.gU (h:R l) (g:R k):R (l.gU k):=by
 obtain ⟨B,hB,h⟩:=h;obtain ⟨C,hC,g⟩:=g;exact ⟨B+C,by omega,jo h g hB hC⟩
theorem R.dX (h:R l) (hm:0<=m):R (l.dX m):=by
 obtain ⟨B,hB,h⟩:=h;have:=Int.mul_nonneg (show 0<=B by omega) hm;exact ⟨B*m+B,by omega,fZ h hm⟩
theorem R.tu (h:R l) (g:R k):R (l.tu k):=by
 obtain ⟨B,hB,h⟩:=h;obtain ⟨C,hC,g⟩:=g;exact ⟨B+(C+2),by omega,uN h g hB hC⟩
theorem R.fc (h:R o) (g:R l):R (fc w o l):=by
 obtain ⟨B,hB,h⟩:=h;obtain ⟨C,hC,g⟩:=g;exact ⟨B+C,by omega,jh h g hB hC⟩
theorem R.cT:R cT:=⟨2,by decide,iD⟩
theorem R.ext (h:R l) (g:R k) (e:∀ x,S l x=S k x):l=k:=by
 obtain ⟨B,hB,h⟩:=h;obtain ⟨C,hC,g⟩:=g;exact Lad.ext h g e
theorem R.common:∀ {ls:List Lad},(∀ l ∈ ls,R l)->∃ B:Int,1<=B/\∀ l ∈ ls,l.Ok B
 | [],_=>⟨1,by decide,fun l h=>nomatch h⟩
 | x::r,h=>by
  obtain ⟨B,hB,hx⟩:=h x (bM ..);obtain ⟨C,hC,hr⟩:=R.common (ls:=r) fun l hl=>h l (bR _ hl);refine ⟨B+C,by omega,fun l hl=>?_⟩;rcases Qv hl with e | e
  ·rw [e]; exact hx.mono (by omega)
  ·exact (hr l e).mono (by omega)
theorem lW {B:Int} (hB:0<=B) (x:Lad):∀ {ls:List Lad},(∀ l ∈ ls,l.Ok B)->(ls.map fun l=>S l x).sum<=ls.length*B
 | [],_=>by simp
 | y::r,h=>by
  have h1:=uh (h y (bM ..)) hB x;have h2:=lW hB x (ls:=r) fun l hl=>h l (bR _ hl);rw [Ky,List.sum_cons,Yk];have:((r.length+1:Nat):Int)*B=r.length*B+B:=by rw [Int.natCast_add,Int.add_mul]; simp
  omega
theorem R.aY {ls:List Lad} (h:∀ l ∈ ls,R l):R (aY ls):=by
 obtain ⟨B,hB,hb⟩:=R.common h;have hl:(0:Int)<=ls.length*B:=Int.mul_nonneg (Int.natCast_nonneg _) (by omega);exact ⟨ls.length*B+B+1,by omega,dU hb (by omega) (by omega) fun x=>by have:=lW (by omega) x hb; omega⟩
theorem xj (hl:R l) (h:∀ k ∈ ls,R k):Lad.aY (l::ls)=l.fw (Lad.aY ls):=by
 refine R.ext (R.aY fun k hk=>?_) (hl.fw (R.aY h)) fun x=>?_
 ·rcases Qv hk with e | e
  ·rw [e]; exact hl
  ·exact h k e
 ·rw [Gr.kY,fV,Gr.kY,Ky,List.sum_cons]
def Le (a b:Lad):Prop:=b.lt a=false
theorem Le.cases (h:Le a b):a=b\/a.lt b=true:=by
 by_cases e:a=b
 ·exact .inl e
 ·exact .inr (fb b a (fun z=>e z.symm) h)
theorem Jh (g:a.lt b=true) (h:Le b c):a.lt c=true:=by
 rcases h.cases with e | e
 ·rw [<- e]; exact g
 ·exact lt_trans _ _ _ g e
theorem zm (ra:R a) (rb:R b) (rc:R c) (h:b.lt c=true):(a.fw b).lt (a.fw c)=true:=by
 obtain ⟨A,hA,ra⟩:=ra;obtain ⟨B,hB,rb⟩:=rb;obtain ⟨C,hC,rc⟩:=rc;exact zj ra rb rc hA hB hC h
theorem qM (ra:R a) (rb:R b) (rc:R c) (h:b.lt c=true):(a.gU b).lt (a.gU c)=true:=by
 obtain ⟨A,hA,ra⟩:=ra;obtain ⟨B,hB,rb⟩:=rb;obtain ⟨C,hC,rc⟩:=rc;exact zq ra rb rc hA hB hC h
theorem R.exp {e:Lad} {m:Int} {r:Lad} (h:R (.cons e m r)):R e:=by
 obtain ⟨B,hB,h⟩:=h;exact ⟨B,hB,h.1⟩
theorem oZ (re:R a) (rl:R l) (h:l ≠ .nil):a.lt (a.gU l)=true:=by
 have h1:=qM re R.nil rl (nil_le l h)
 rwa [fU] at h1
theorem top_lt {e e2:Lad} {m m2:Int} {r r2:Lad} (h:e.lt e2=true):Lad.lt (.cons e m r) (.cons e2 m2 r2)=true:=by
 rw [fQ,if_neg (fC h)]; exact h
theorem jK {e:Lad} {m:Int} {r:Lad} (h:l ≠ .nil):spd (.cons e m r) l=.cons (e.gU l) 1 .nil:=by
 cases l with
 | nil=>exact absurd rfl h
 | cons _ _ _=>rfl
theorem DF (ro:R o) (rl:R l) (rk:R k) (ho:o ≠ .nil) (h:l.lt k=true):(fc w o l).lt (fc w o k)=true:=by
 cases w with
 | false=>exact qM ro rl rk h
 | true =>
  show (spd o l).lt (spd o k)=true;have hk:k ≠ .nil:=fun z=>by rw [z,eJ] at h; cases h
  cases o with
  | nil=>exact absurd rfl ho
  | cons e m r =>
   rw [jK hk];by_cases hl:l=.nil
   ·rw [hl];show Lad.lt (.cons e m r) _=true;exact top_lt (oZ ro.exp rk hk)
   ·rw [jK hl];exact top_lt (qM ro.exp rl rk h)
theorem zx (rl:R l) (rk:R k) (hn:0<=n):(l.fw (k.dX n)).lt (l.tu k)=true:=by
 obtain ⟨B,hB,rl⟩:=rl;obtain ⟨C,hC,rk⟩:=rk;exact EH rl rk hB hC hn
end Lad
namespace Gr
variable {b:Bk} {ρ σ:Str->Lad} {C:Int}
def RN (ρ:Str->Lad) (g:Gr):Prop:=∀ x ∈ g.within,Lad.R (ρ x.1.1)/\ρ x.1.1 ≠ .nil
theorem RN.cons {k:Str} {g r:Gr} {m:Int} (h:RN ρ (.cons k g m r)):(Lad.R (ρ k)/\ρ k ≠ .nil)/\RN ρ g/\RN ρ r :=
 ⟨h ((k,g),m) (bM ..),fun x hx=>h x (bR _ (jA _ hx)),fun x hx=>h x (bR _ (kP _ hx))⟩
theorem vg:∀ {g:Gr},g.Ok C->RN ρ g->∀ l ∈ rkT b ρ g,Lad.R l
 | .nil,_,_,l,hl=>nomatch hl
 | .cons k g m r,ho,h,l,hl=>by
  obtain ⟨h1,h2,h3⟩:=h.cons;obtain ⟨o1,o2,o3,o4,o5,_⟩:=ho;rcases Qv hl with e | e
  ·rw [e]; exact (h1.1.fc (Lad.R.aY (vg o2 h2))).dX (by omega)
  ·exact vg o5 h3 l e
theorem qe {g:Gr} (ho:g.Ok C) (h:RN ρ g):Lad.R (rk b ρ g):=Lad.R.aY (vg ho h)
theorem AA {k:Str} {g r:Gr} (ho:(Gr.cons k g m r).Ok C) (h:RN ρ (.cons k g m r)):rk b ρ (.cons k g m r)=(Lad.dX (hQ b ρ (k,g)) m).fw (rk b ρ r):=by
 obtain ⟨h1,h2,h3⟩:=h.cons;obtain ⟨o1,o2,o3,o4,o5,_⟩:=ho;exact Lad.xj ((h1.1.fc (qe o2 h2)).dX (by omega)) (vg o5 h3)
theorem Ax {g:Gr} (hm:0<=m) (hg:Lad.R (rk b ρ g)) (hk:Lad.R (rk b ρ (dJ g m))):rk b ρ (dJ g m)=Lad.dX (rk b ρ g) m:=by
 refine Lad.R.ext hk (hg.dX hm) fun x=>?_;rw [sT,Lad.vQ,sT];by_cases h0:m=0
 ·subst h0; simp [dJ,Gr.ps,wsum]
 ·rw [dJ,if_neg h0,aQ,rn]
theorem Ay {g k:Gr} (hg:Lad.R (rk b ρ g)) (hk:Lad.R (rk b ρ k)) (hj:Lad.R (rk b ρ (ki g k))):rk b ρ (ki g k)=(rk b ρ g).fw (rk b ρ k):=by
 obtain ⟨B,hB,hg⟩:=hg;obtain ⟨C,hC,hk⟩:=hk;obtain ⟨D,hD,hj⟩:=hj;exact zbx hg hk hB hC hj
theorem RN.named {g:Gr} (h:∀ n ∈ ns,Lad.R (ρ n)/\ρ n ≠ .nil) (hn:Named ns g):RN ρ g:=fun x hx=>h _ (hn x hx)
theorem Dj {n:Int} (ij:dV r) (hn:0<=n) (h:∀ n ∈ ns,Lad.R (ρ n)/\ρ n ≠ .nil) (h1:Named ns r.1) (h2:Named ns r.2):rk b ρ (fM r n)=(rk b ρ r.1).fw (Lad.dX (rk b ρ r.2) n):=by
 obtain ⟨o1,o2,_⟩:=ij;have r1:=qe (b:=b) o1 (RN.named h h1);have r2:=qe (b:=b) o2 (RN.named h h2);have ot:=fZ o2 (by decide) hn;have nt:=oF h2 n;have rt:=qe (b:=b) ot (RN.named h nt);have z:=Int.mul_nonneg (show (0:Int)<=1000000001 by decide) hn;have rj:=qe (b:=b) (fN o1 ot (by decide) (by omega)) (RN.named h (gO h1 nt));unfold fM;rw [Ay r1 rt rj,Ax hn r2 rt]
end Gr
theorem zj3 (ij:dV r) (h:∀ n ∈ ns,Lad.R (ρ n)/\ρ n ≠ .nil) (h1:Gr.Named ns r.1) (h2:Gr.Named ns r.2):Lad.R (gI b ρ r):=(Gr.qe ij.1 (Gr.RN.named h h1)).tu (Gr.qe ij.2.1 (Gr.RN.named h h2))
theorem Bk.Ok.named (ok:b.Ok) {k:Kd} (hk:k ∈ b) {r:Ru} (hr:r ∈ k.rs):dV r/\Gr.Named b.names r.1/\Gr.Named b.names r.2:=by
 obtain ⟨h1,h2⟩:=(ok.kd k hk).2.2 r hr;exact ⟨h1,fun x hx=>h2 x (jA _ hx),fun x hx=>h2 x (kP _ hx)⟩
theorem zfb (ok:b.Ok) {n:Str} (he:EndK b n):n ∈ b.names->Lad.R (cW b n)/\cW b n ≠ .nil:=by
 induction he with
 | mk h ih =>
  rename_i n;intro hn;obtain ⟨k,eg⟩:=Bk.dw hn;obtain ⟨hk,rfl⟩:=Bk.get_some eg;have eq:=Od ok hk (.mk h);have mW:=Bz ok hk;have ne:cW b k.n ≠ .nil:=fun z=>by
   have:=Lad.jU (k.rs.map (gI b (cW b))) Lad.cT Lad.cT (bM ..);rw [<- eq,z] at this;rw [Lad.lt_nil_cons] at this; cases this
  refine ⟨?_,ne⟩;rw [eq];rcases Qv (Lad.iJ (k.rs.map (gI b (cW b))) Lad.cT) with e | e
  ·rw [e]; exact Lad.R.cT
  ·obtain ⟨r,hr,e⟩:=Qx e;rw [<- e];have nm:Gr.Named (adj b k.n) r.1/\Gr.Named (adj b k.n) r.2:=⟨fun x hx=>by rw [mW]; exact zV hr (jA _ hx),fun x hx=>by rw [mW]; exact zV hr (kP _ hx)⟩;exact zj3 (ok.named hk hr).1 (fun n hn=>ih n hn (CW ok hn)) nm.1 nm.2
theorem xQ {te:TA} {σ:L2.St} {H:Hp} {Q:List V->Hp->Prop} (h:te σ H fun xs H2=>Q (v::xs) H2):tCons (tC v) te σ H Q:=h
namespace Gr
variable {b:Bk} {ρ σ:Str->Lad} {C:Int} {ns:List Str}
theorem iH {x:Nat} (hk:∀ n ∈ ns,(ρ n).Ok (2 ^ x)):∀ {g:Gr},Named ns g->g.Ok (2 ^ 30)->(∀ l ∈ rkT b ρ g,l.Ok (2 ^ (x+32*g.parts)))/\∀ y,((rkT b ρ g).map fun l=>Lad.S l y).sum < 2 ^ (x+32*g.parts)
 | .nil,_,_=>And.intro (fun l hl=>nomatch hl) (fun y=>by
  show (0:Int) < _;have:=i8 (x+32*Gr.nil.parts); omega)
 | .cons k g m r,h,ho=>by
  obtain ⟨_,hg,xI,qA,hr,_⟩:=ho;have qB:k ∈ ns:=h ((k,g),m) (bM ..);obtain ⟨g1,g2⟩:=iH hk (g:=g) (fun x hx=>h x (bR _ (jA _ hx))) hg;obtain ⟨r1,r2⟩:=iH hk (g:=r) (fun x hx=>h x (bR _ (kP _ hx))) hr;have e1:(Gr.cons k g m r).parts=1+g.parts+r.parts:=rfl;have p0:=i8 (x+32*g.parts);have px:=i8 x;have io:(Lad.aY (rkT b ρ g)).Ok (2 ^ (x+32*g.parts)):=Lad.dU g1 (by omega) (Kw _) g2;have lo:=Lad.jh (w:=b.wide k) (hk k qB) io px p0;have m1:=jx (show x<=x+32*g.parts by omega);have Ji:(fc (b.wide k) (ρ k) (Lad.aY (rkT b ρ g))).Ok (2 ^ (x+32*g.parts+1)):=lo.mono (by rw [BB]; omega);have to:=Lad.fZ Ji (show 0<=m by omega);have q0:=i8 (x+32*g.parts+1);have hb:2 ^ (x+32*g.parts+1)*m+2 ^ (x+32*g.parts+1)<=2 ^ (x+32*g.parts+31):=by
   have:(2:Int) ^ (x+32*g.parts+31)=2 ^ (x+32*g.parts+1)*2 ^ 30:=by rw [<- Int.pow_add]
   rw [this];have h2:(2:Int) ^ (x+32*g.parts+1)*(m+1)<=2 ^ (x+32*g.parts+1)*2 ^ 30:=Int.mul_le_mul_of_nonneg_left (by omega) (by omega);rw [Int.mul_add,Int.mul_one] at h2;exact h2
  have to2:=to.mono hb;have w1:=jx (show x+32*g.parts+31<=x+32*(1+g.parts+r.parts)-1 by omega);have w2:=jx (show x+32*r.parts<=x+32*(1+g.parts+r.parts)-1 by omega);have w3:=BB (x+32*(1+g.parts+r.parts)-1);rw [show x+32*(1+g.parts+r.parts)-1+1=x+32*(1+g.parts+r.parts) by omega] at w3;have w0:=i8 (x+32*(1+g.parts+r.parts)-1);rw [e1];refine ⟨fun l hl=>?_,fun y=>?_⟩
  ·rcases Qv hl with rfl | hl
   ·exact to2.mono (by omega)
   ·exact (r1 l hl).mono (by omega)
  ·show Lad.S (Lad.dX (fc (b.wide k) (ρ k) (Lad.aY (rkT b ρ g))) m) y+((rkT b ρ r).map fun l=>Lad.S l y).sum < _;have s2:=r2 y;have s3:Lad.S (Lad.dX (fc (b.wide k) (ρ k) (Lad.aY (rkT b ρ g))) m) y < 2 ^ (x+32*g.parts+31)\/Lad.S (Lad.dX (fc (b.wide k) (ρ k) (Lad.aY (rkT b ρ g))) m) y<=0:=by
    rcases Lad.c6 to2 y with ⟨h1,_⟩ | ⟨mm,_,h2,_,h4⟩
    ·right; omega
    ·left; omega
   have w4:=i8 (x+32*g.parts+31);rcases s3 with s3 | s3 <;> omega
theorem lL {P D x:Nat} (hk:∀ n ∈ ns,n ∈ b.names/\ρ n ≠ .nil/\(ρ n).parts<=P/\(ρ n).deep<=D/\(ρ n).Ok (2 ^ x)) (hP:1<=P):∀ {g:Gr},Named ns g->g.Ok (2 ^ 30)->P*g.parts<=390->D+g.deep<=24->x+32*g.parts<=2000->qR b ρ ns g
 | .nil,_,_,_,_,_=>trivial
 | .cons k g m r,h,ho,hp,hd,hx=>by
  have B7:∀ n ∈ ns,(ρ n).parts<=P/\(ρ n).deep<=D:=fun n hn=>⟨(hk n hn).2.2.1,(hk n hn).2.2.2.1⟩;have B4:∀ n ∈ ns,(ρ n).Ok (2 ^ x):=fun n hn=>(hk n hn).2.2.2.2;have nm:2 ^ 30<=(2:Int) ^ 2000:=jx (by decide);obtain ⟨qB,qW⟩:k ∈ ns/\(Named ns g/\Named ns r):=⟨h ((k,g),m) (bM ..),fun x hx=>h x (bR _ (jA _ hx)),fun x hx=>h x (bR _ (kP _ hx))⟩;obtain ⟨IX,hg,xI,qA,hr,su⟩:=ho;have ho:(Gr.cons k g m r).Ok (2 ^ 30):=⟨IX,hg,xI,qA,hr,su⟩;have e1:(Gr.cons k g m r).parts=1+g.parts+r.parts:=rfl;have e2:(Gr.cons k g m r).deep=max (1+g.deep) r.deep:=rfl;rw [e1,Nat.mul_add,Nat.mul_add,Nat.mul_one] at hp;rw [e1] at hx;obtain ⟨s1,s2⟩:=dR B7 h;obtain ⟨g1,g2⟩:=dR B7 qW.1;obtain ⟨n1,n2⟩:=iH B4 qW.1 hg;have p0:=i8 (x+32*g.parts);have px:=i8 x;have io:(Lad.aY (rkT b ρ g)).Ok (2 ^ (x+32*g.parts)):=Lad.dU n1 (by omega) (Kw _) n2;have lo:=(Lad.jh (w:=b.wide k) (B4 k qB) io px p0);have m1:=jx (show x<=x+32*g.parts by omega);have m2:=jx (show x+32*g.parts+1<=2000 by omega);have m3:=BB (x+32*g.parts);obtain ⟨kb,DG,kp,kd,kx⟩:=hk k qB;have num:∀ {l:Lad},l.Ok (2 ^ 2000)->∀ p ∈ l.ps,0<=p.2/\p.2 < 2 ^ 2000:=fun hl p hp=>by
   have:=(Lad.bj.mp hl).1 p hp;exact ⟨by omega,this.2.2⟩
  have ip:(Lad.aY (rkT b ρ g)).parts<=P*g.parts:=Yb (Lad.cK _) g1;have DJ:(Lad.aY (rkT b ρ g)).deep<=D+g.deep:=Lad.dG g2;have lp:=Lad.iY (b.wide k) (ρ k) (Lad.aY (rkT b ρ g));have ld:=Lad.jW (w:=b.wide k) (o:=ρ k) (l:=Lad.aY (rkT b ρ g)) (n:=D+g.deep) (by omega) DJ;refine ⟨⟨qB,kb,DG,⟨by omega,by omega,num (kx.mono (by omega))⟩,⟨by show (Lad.aY (rkT b ρ g)).deep<=25; omega,by show (Lad.aY (rkT b ρ g)).parts<=900; omega,num (io.mono (by omega))⟩,⟨by show (fc (b.wide k) (ρ k) (Lad.aY (rkT b ρ g))).deep<=25; omega,by show (fc (b.wide k) (ρ k) (Lad.aY (rkT b ρ g))).parts<=900; omega,num (lo.mono (by omega))⟩,by omega,by omega,?_⟩,lL hk hP qW.1 hg (by omega) (by omega) (by omega),lL hk hP qW.2 hr (by omega) (by omega) (by omega)⟩;have key:∀ ls:List Lad,(ls.flatMap Lad.ps).length<=(ls.map Lad.parts).sum:=by
   intro ls
   induction ls with
   | nil=>exact Yc _
   | cons l r ih =>
    rw [List.flatMap_cons,Yf,Ky,List.sum_cons,Lad.bB];have:=l.aF;omega
  have:=key (rkT b ρ (.cons k g m r));rw [e1,Nat.mul_add,Nat.mul_add,Nat.mul_one] at s1;exact Yb (Yb this s1) (by omega)
end Gr
theorem QB {P D x m:Nat} (hk:∀ n ∈ ns,(ρ n).parts<=P/\(ρ n).deep<=D) (hx:∀ n ∈ ns,(ρ n).Ok (2 ^ x)) (h1:Gr.Named ns r.1) (h2:Gr.Named ns r.2) (o1:r.1.Ok (2 ^ 30)) (o2:r.2.Ok (2 ^ 30)) (hs:r.1.parts+r.2.parts<=m) (hD:2<=D) :
  (gI b ρ r).parts<=m*P+2/\(gI b ρ r).deep<=D+m/\(gI b ρ r).Ok (2 ^ (x+32*m+2))/\(Gr.rk b ρ r.1).deep<=D+m/\(Gr.rk b ρ r.2).deep<=D+m/\(Gr.rk b ρ r.1).parts<=m*P/\(Gr.rk b ρ r.2).parts<=m*P:=by
 obtain ⟨a1,a2⟩:=Gr.dR (b:=b) hk h1;obtain ⟨b1,b2⟩:=Gr.dR (b:=b) hk h2;obtain ⟨c1,c2⟩:=Gr.iH (b:=b) hx h1 o1;obtain ⟨d1,d2⟩:=Gr.iH (b:=b) hx h2 o2;have w1:=pJ r.1;have w2:=pJ r.2;have p1:(Gr.rk b ρ r.1).parts<=P*r.1.parts:=Yb (Lad.cK _) a1;have p2:(Gr.rk b ρ r.2).parts<=P*r.2.parts:=Yb (Lad.cK _) b1;have q1:(Gr.rk b ρ r.1).deep<=D+r.1.deep:=Lad.dG a2;have q2:(Gr.rk b ρ r.2).deep<=D+r.2.deep:=Lad.dG b2;have e1:=i8 (x+32*r.1.parts);have e2:=i8 (x+32*r.2.parts);have k1:(Gr.rk b ρ r.1).Ok (2 ^ (x+32*r.1.parts)):=Lad.dU c1 (by omega) (Kw _) c2;have k2:(Gr.rk b ρ r.2).Ok (2 ^ (x+32*r.2.parts)):=Lad.dU d1 (by omega) (Kw _) d2;have ko:=Lad.uN k1 k2 e1 e2;have hm:P*r.1.parts+P*r.2.parts<=m*P:=by
  rw [<- Nat.mul_add,Nat.mul_comm m P];exact Nat.mul_le_mul_left _ hs
 have ap:=Lad.xo (Gr.rk b ρ r.1) (Gr.rk b ρ r.2);have ad:=Lad.ni (n:=D+m) (l:=Gr.rk b ρ r.1) (k:=Gr.rk b ρ r.2) (by omega) (by omega) (by omega);have m1:=jx (show x+32*r.1.parts<=x+32*m by omega);have m2:=jx (show x+32*r.2.parts<=x+32*m by omega);have m4:(2:Int) ^ (x+32*m+2)=2*2 ^ (x+32*m+1):=BB (x+32*m+1);have m5:=i8 (x+32*m);exact ⟨by unfold gI; omega,ad,ko.mono (by omega),by omega,by omega,by omega,by omega⟩
structure BndY (m c:Nat) (l:Lad):Prop where
 ne:l ≠ .nil
 parts:l.parts<=Pm m c
 deep:l.deep<=2+m*c
 ok:l.Ok (2 ^ (2+(32*m+2)*c))
theorem P4 {b:Bk} (ok:b.Ok) {m:Nat} (hm:∀ k ∈ b,EndK b k.n->∀ r ∈ k.rs,r.1.Ok (2 ^ 30)/\r.2.Ok (2 ^ 30)/\r.1.parts+r.2.parts<=m):∀ (c:Nat) (k:Kd),k ∈ b->EndK b k.n->Bo b k.n<=c->BndY m c (cW b k.n)
 | c,k,hk,he,hc=>by
  have mW:=Bz ok hk;have nm:∀ r ∈ k.rs,Gr.Named (adj b k.n) r.1/\Gr.Named (adj b k.n) r.2:=fun r hr=>⟨fun x hx=>by rw [mW]; exact zV hr (jA _ hx),fun x hx=>by rw [mW]; exact zV hr (kP _ hx)⟩;have eq:=Od ok hk he;have ne:cW b k.n ≠ .nil:=fun z=>by
   have:=Lad.jU (k.rs.map (gI b (cW b))) Lad.cT Lad.cT (bM ..);rw [<- eq,z] at this;rw [Lad.lt_nil_cons] at this; cases this
  have p2:=VG m c;have x0:(2:Int)<=2 ^ (2+(32*m+2)*c):=by
   have:=jx (show 1<=2+(32*m+2)*c by omega);exact this
  have BL:(∀ r ∈ k.rs,(gI b (cW b) r).parts<=Pm m c/\(gI b (cW b) r).deep<=2+m*c/\(gI b (cW b) r).Ok (2 ^ (2+(32*m+2)*c)))->BndY m c (cW b k.n):=fun h=>by
   refine ⟨ne,?_,?_,?_⟩ <;> rw [eq] <;> rcases Qv (Lad.iJ (k.rs.map (gI b (cW b))) Lad.cT) with e | e
   ·rw [e]; show 1<=_; omega
   ·obtain ⟨r,hr,e⟩:=Qx e;rw [<- e]; exact (h r hr).1
   ·rw [e]; show 1<=_; omega
   ·obtain ⟨r,hr,e⟩:=Qx e;rw [<- e]; exact (h r hr).2.1
   ·rw [e]; exact Lad.iD.mono x0
   ·obtain ⟨r,hr,e⟩:=Qx e;rw [<- e]; exact (h r hr).2.2
  cases c with
  | zero =>
   have h0:adj b k.n=[]:=by
    cases ha:adj b k.n with
    | nil=>rfl
    | cons y ys =>
     have:=PM ok he (k:=y) (by rw [ha]; exact bM ..);omega
   refine BL fun r hr=>?_;obtain ⟨n1,n2⟩:=nm r hr;rw [h0] at n1 n2;have nil_of:∀ g:Gr,Gr.Named [] g->g=.nil:=fun g h=>by
    cases g with
    | nil=>rfl
    | cons k g m r=>exact absurd (h ((k,g),m) (bM ..)) (by simp)
   have e:r=(.nil,.nil):=Prod.ext (nil_of _ n1) (nil_of _ n2);rw [e,Px];exact ⟨by show 1<=2; decide,by show 1<=_; omega,Lad.iD.mono x0⟩
  | succ c =>
   have A9:∀ n ∈ adj b k.n,BndY m c (cW b n):=fun n hn=>by
    have dZ:=PM ok he hn;obtain ⟨kd,eg⟩:=Bk.dw (CW ok hn);obtain ⟨AZ,rfl⟩:=Bk.get_some eg;exact P4 ok hm c kd AZ (he.next hn) (by omega)
   refine BL fun r hr=>?_;obtain ⟨n1,n2⟩:=nm r hr;obtain ⟨o1,o2,hs⟩:=hm k hk he r hr;obtain ⟨c1,c2,c3,_⟩:=QB (b:=b) (ρ:=cW b) (P:=Pm m c) (D:=2+m*c) (x:=2+(32*m+2)*c) (fun n hn=>⟨(A9 n hn).parts,(A9 n hn).deep⟩) (fun n hn=>(A9 n hn).ok) n1 n2 o1 o2 hs (by omega);refine ⟨c1,by rw [Nat.mul_succ]; omega,?_⟩;have:2+(32*m+2)*(c+1)=2+(32*m+2)*c+32*m+2:=by rw [Nat.mul_succ]; omega
   rw [this]; exact c3
theorem zbu (ok:b.Ok) {m:Nat} (hm:∀ k ∈ b,EndK b k.n->∀ r ∈ k.rs,r.1.Ok (2 ^ 30)/\r.2.Ok (2 ^ 30)/\r.1.parts+r.2.parts<=m) (hP:m*Pm m (b.length-2)<=390) (hD:2+m*(b.length-2)+m<=24) (hX:2+(32*m+2)*(b.length-2)+32*m<=2000):OwnR b (cW b)/\∀ n ∈ b.names,EndK b n->BndY m (b.length-1) (cW b n):=by
 have hb:∀ n ∈ b.names,EndK b n->BndY m (b.length-1) (cW b n):=fun n hn he=>by
  obtain ⟨kd,eg⟩:=Bk.dw hn;obtain ⟨AZ,rfl⟩:=Bk.get_some eg;have:=WW he hn;exact P4 ok hm _ kd AZ he (by omega)
 have A9:∀ k ∈ b,EndK b k.n->∀ n ∈ adj b k.n,BndY m (b.length-2) (cW b n):=fun k hk he n hn=>by
  obtain ⟨kd,eg⟩:=Bk.dw (CW ok hn);obtain ⟨AZ,rfl⟩:=Bk.get_some eg;have h1:=PM ok he hn;have h2:=WW he (Ku ⟨k,hk,rfl⟩);exact P4 ok hm _ kd AZ (he.next hn) (by omega)
 have p2:=VG m (b.length-2);refine ⟨⟨fun k hk he=>Od ok hk he,fun k hk he ns Ab r hr=>?_,fun k hk he r hr=>?_⟩,hb⟩
 ·have mW:=Bz ok hk;have n1:Gr.Named (adj b k.n) r.1:=fun x hx=>by rw [mW]; exact zV hr (jA _ hx)
  have n2:Gr.Named (adj b k.n) r.2:=fun x hx=>by rw [mW]; exact zV hr (kP _ hx)
  obtain ⟨o1,o2,hs⟩:=hm k hk he r hr;have hc:=A9 k hk he;obtain ⟨_,_,_,d1,d2,q1,q2⟩:=QB (b:=b) (ρ:=cW b) (P:=Pm m (b.length-2)) (D:=2+m*(b.length-2)) (x:=2+(32*m+2)*(b.length-2)) (fun n hn=>⟨(hc n hn).parts,(hc n hn).deep⟩) (fun n hn=>(hc n hn).ok) n1 n2 o1 o2 hs (by omega);have w1:=pJ r.1;have w2:=pJ r.2;have hP1:Pm m (b.length-2)*r.1.parts<=390:=Yb (Nat.mul_le_mul_left _ (show r.1.parts<=m by omega)) (by rw [Nat.mul_comm]; exact hP);have hP2:Pm m (b.length-2)*r.2.parts<=390:=Yb (Nat.mul_le_mul_left _ (show r.2.parts<=m by omega)) (by rw [Nat.mul_comm]; exact hP);have xJ:∀ n ∈ adj b k.n,n ∈ b.names/\cW b n ≠ .nil/\(cW b n).parts<=Pm m (b.length-2)/\(cW b n).deep<=2+m*(b.length-2)/\(cW b n).Ok (2 ^ (2+(32*m+2)*(b.length-2))):=fun n hn=>⟨CW ok hn,(hc n hn).ne,(hc n hn).parts,(hc n hn).deep,(hc n hn).ok⟩;exact ⟨(Gr.lL xJ (by omega) n1 o1 hP1 (by omega) (by omega)).mono Ab,(Gr.lL xJ (by omega) n2 o2 hP2 (by omega) (by omega)).mono Ab,by omega,by omega,by omega,by omega⟩
 ·have mW:=Bz ok hk;have n1:Gr.Named (adj b k.n) r.1:=fun x hx=>by rw [mW]; exact zV hr (jA _ hx)
  have n2:Gr.Named (adj b k.n) r.2:=fun x hx=>by rw [mW]; exact zV hr (kP _ hx)
  obtain ⟨o1,o2,hs⟩:=hm k hk he r hr;have hc:=A9 k hk he;obtain ⟨_,d0,_⟩:=QB (b:=b) (ρ:=cW b) (P:=Pm m (b.length-2)) (D:=2+m*(b.length-2)) (x:=2+(32*m+2)*(b.length-2)) (fun n hn=>⟨(hc n hn).parts,(hc n hn).deep⟩) (fun n hn=>(hc n hn).ok) n1 n2 o1 o2 hs (by omega);omega
def gM (c:Addr) (a l s:Int):List (Key × V):=[(Sum.inr "cells",V.ref c),(Sum.inr Ag,V.int a),(Sum.inr "left",V.int l),(Sum.inr "seed",V.int s)]
theorem Xi (c:Addr) (a l s:Int):valV (gM c a l s) (Sum.inr "cells")=some (.ref c):=rfl
theorem Pt (c:Addr) (a l s:Int):valV (gM c a l s) (Sum.inr Ag)=some (.int a):=rfl
theorem Oc (c:Addr) (a l s:Int):valV (gM c a l s) (Sum.inr "left")=some (.int l):=rfl
theorem Wb (c:Addr) (a l s:Int):valV (gM c a l s) (Sum.inr "seed")=some (.int s):=rfl
theorem zj1 (c:Addr) (a l s x:Int):putK (gM c a l s) (Sum.inr Ag) (.int x)=gM c x l s:=rfl
def MD (H:Hp) (p:Addr):Prop:=∃ (c:Addr) (ns:List Int) (a l s:Int),H p=some (.dK (gM c a l s))/\H c=some (.lst (ns.map V.int))/\ns.length<=63/\0<=a/\a<=ns.length/\(0<=l/\l < 10 ^ 320)/\(0<=s/\s < 2 ^ 31)
def Vh (K:Qn):Sp:=fun vs H Q _=>∃ (a:Addr) (ns:List Int),vs=[.ref a]/\SqL K H a (ns.map V.int)/\ns.length<=63/\∀ (p:Addr) (H':Hp),SB [] H H'->H p=none->MD H' p->Q (.ref p) H'
inductive Dro
 | fin (i:Nat) | man (i:Nat) | ex (i:Nat) (d:Dro)
namespace Dro
def up:Dro->Nat->Dro
 | fin i,k=>fin (i+k)
 | man i,k=>man (i+k)
 | ex i d,k=>ex (i+k) d
theorem lK (d:Dro):d.up 0=d:=by cases d <;> rfl
theorem BF (d:Dro) (i j:Nat):(d.up i).up j=d.up (j+i):=by cases d <;> simp [up] <;> omega
def enc:Dro->PyData
 | fin i=>.tuple [.str "end",.int (i:Nat)]
 | man i=>.tuple [.str a9,.int (i:Nat)]
 | ex i d=>.tuple [.str "exponent",.int (i:Nat),d.enc]
def deep:Dro->Nat
 | fin _=>1
 | man _=>1
 | ex _ d=>1+d.deep
def word:Dro->Str
 | fin _=>"end"
 | man _=>a9
 | ex _ _=>"exponent"
def ix:Dro->Nat
 | fin i=>i
 | man i=>i
 | ex i _=>i
end Dro
namespace Lad
def dro:Lad->Lad->Dro
 | .cons e m r,.cons f n s=>if e=f then (if m=n then (dro r s).up 1 else .man 0) else .ex 0 (dro e f)
 | _,_=>.fin 0
theorem kT (l:Lad):dro l .nil=.fin 0:=by cases l <;> rfl
theorem nf (e f:Lad) (m n:Int) (r s:Lad):dro (.cons e m r) (.cons f n s)=if e=f then (if m=n then (dro r s).up 1 else .man 0) else .ex 0 (dro e f):=by rw [dro]
theorem sM {l:Lad} {p q:Lad × Int} (hp:l.ps[k]?=some p) (hq:o.ps[k]?=some q):dro (ofPs (l.ps.drop k)) (ofPs (o.ps.drop k))=if p.1=q.1 then (if p.2=q.2 then (dro (ofPs (l.ps.drop (k+1))) (ofPs (o.ps.drop (k+1)))).up 1 else .man 0) else .ex 0 (dro p.1 q.1):=by
 have h1:k < l.ps.length:=(Kq hp).1;have h2:k < o.ps.length:=(Kq hq).1;have e1:l.ps[k]=p:=(Kq hp).2;have e2:o.ps[k]=q:=(Kq hq).2;rw [List.drop_eq_getElem_cons h1,List.drop_eq_getElem_cons h2,e1,e2];exact nf _ _ _ _ _ _
theorem vL:∀ l o:Lad,dro l o=(dro (ofPs (l.ps.drop (alh l o))) (ofPs (o.ps.drop (alh l o)))).up (alh l o)
 | .nil,o=>by
  rw [kX,List.drop_zero,List.drop_zero,aC,aC,Dro.lK]
 | .cons e m r,.nil=>by
  rw [kW,List.drop_zero,List.drop_zero,aC,aC,Dro.lK]
 | .cons e m r,.cons e' m' r'=>by
  rw [ng];by_cases h:e=e'/\m=m'
  ·rw [if_pos h];obtain ⟨rfl,rfl⟩:=h;have ih:=vL r r';have d1:(Lad.cons e m r).ps.drop (1+alh r r')=r.ps.drop (alh r r'):=by rw [Nat.add_comm]; rfl
   have d2:(Lad.cons e m r').ps.drop (1+alh r r')=r'.ps.drop (alh r r'):=by rw [Nat.add_comm]; rfl
   rw [d1,d2,nf,if_pos rfl,if_pos rfl,ih,Dro.BF]
  ·rw [if_neg h,List.drop_zero,List.drop_zero,aC,aC,Dro.lK]
theorem m7:∀ l o:Lad,(dro l o).deep<=1+l.deep
 | .nil,o=>by show 1<=1+0; omega
 | .cons e m r,.nil=>by rw [kT]; show 1<=_; omega
 | .cons e m r,.cons f n s=>by
  have h1:=m7 r s;have h2:=m7 e f;have e1:(Lad.cons e m r).deep=max (1+e.deep) r.deep:=rfl;rw [nf]
  split
  ·split
   ·have:((dro r s).up 1).deep=(dro r s).deep:=by cases dro r s <;> rfl
    omega
   ·show 1<=_; omega
  ·show 1+(dro e f).deep<=_; omega
def mrg:Lad->Lad->Lad
 | .nil,k=>k
 | .cons e m r,.nil=>.cons e m r
 | .cons e m r,.cons f n s=>if e=f then .cons e (m+n) (mrg r s) else if e.lt f=true then .cons f n (mrg (.cons e m r) s) else .cons e m (mrg r (.cons f n s))
termination_by l k=>l.len+k.len
decreasing_by all_goals (simp only [Lad.len]; omega)
theorem oG (l:Lad):mrg l .nil=l:=by cases l <;> simp [mrg]
theorem oH (l:Lad):mrg .nil l=l:=by rw [mrg]
theorem rX (e f:Lad) (m n:Int) (r s:Lad):mrg (.cons e m r) (.cons f n s)=if e=f then .cons e (m+n) (mrg r s) else if e.lt f=true then .cons f n (mrg (.cons e m r) s) else .cons e m (mrg r (.cons f n s)):=by rw [mrg]
theorem qg {l k:Lad}:∀ p ∈ (mrg l k).ps,(∃ q ∈ l.ps,q.1=p.1)\/∃ q ∈ k.ps,q.1=p.1:=by
 fun_induction mrg l k with
 | case1 k=>exact fun p hp=>.inr ⟨p,hp,Ja⟩
 | case2 e m r=>exact fun p hp=>.inl ⟨p,hp,Ja⟩
 | case3 m r e n s ih =>
  intro p hp;rcases Qv hp with h | h
  ·exact .inl ⟨(e,m),bM ..,by rw [h]⟩
  ·rcases ih p h with ⟨q,hq,z⟩ | ⟨q,hq,z⟩
   ·exact .inl ⟨q,bR _ hq,z⟩
   ·exact .inr ⟨q,bR _ hq,z⟩
 | case4 e m r f n s h1 h2 ih =>
  intro p hp;rcases Qv hp with h | h
  ·exact .inr ⟨(f,n),bM ..,by rw [h]⟩
  ·rcases ih p h with ⟨q,hq,z⟩ | ⟨q,hq,z⟩
   ·exact .inl ⟨q,hq,z⟩
   ·exact .inr ⟨q,bR _ hq,z⟩
 | case5 e m r f n s h1 h2 ih =>
  intro p hp;rcases Qv hp with h | h
  ·exact .inl ⟨(e,m),bM ..,by rw [h]⟩
  ·rcases ih p h with ⟨q,hq,z⟩ | ⟨q,hq,z⟩
   ·exact .inl ⟨q,bR _ hq,z⟩
   ·exact .inr ⟨q,hq,z⟩
theorem Dy {l k:Lad}:l.Ok B->k.Ok C->1<=B->1<=C->(mrg l k).Ok (B+C):=by
 fun_induction mrg l k with
 | case1 k=>exact fun _ h b c=>h.mono (by omega)
 | case2 e m r=>exact fun h _ b c=>h.mono (by omega)
 | case3 m r e n s ih =>
  intro h g b c;obtain ⟨h1,h2,h3,h4,h5⟩:=h;obtain ⟨g1,g2,g3,g4,g5⟩:=g;refine ⟨h1.mono (by omega),by omega,by omega,ih h4 g4 b c,fun p hp=>?_⟩;rcases qg p hp with ⟨q,hq,z⟩ | ⟨q,hq,z⟩
  ·rw [<- z]; exact h5 q hq
  ·rw [<- z]; exact g5 q hq
 | case4 e m r f n s n1 n2 ih =>
  intro h g b c;obtain ⟨g1,g2,g3,g4,g5⟩:=g;refine ⟨g1.mono (by omega),by omega,by omega,ih h g4 b c,fun p hp=>?_⟩;rcases qg p hp with ⟨q,hq,z⟩ | ⟨q,hq,z⟩
  ·rw [<- z];rcases Qv hq with hq | hq
   ·rw [hq]; exact n2
   ·exact lt_trans _ _ _ (h.2.2.2.2 q hq) n2
  ·rw [<- z]; exact g5 q hq
 | case5 e m r f n s n1 n2 ih =>
  intro h g b c;obtain ⟨h1,h2,h3,h4,h5⟩:=h;have dZ:f.lt e=true:=fb _ _ n1 (by simpa using n2);refine ⟨h1.mono (by omega),by omega,by omega,ih h4 g b c,fun p hp=>?_⟩;rcases qg p hp with ⟨q,hq,z⟩ | ⟨q,hq,z⟩
  ·rw [<- z]; exact h5 q hq
  ·rw [<- z];rcases Qv hq with hq | hq
   ·rw [hq]; exact dZ
   ·exact lt_trans _ _ _ (g.2.2.2.2 q hq) dZ
end Lad
theorem Dro.noList:∀ d:Dro,FT.noList d.enc=true
 | .fin i=>by simp [Dro.enc,FT.noList,jw]
 | .man i=>by simp [Dro.enc,FT.noList,jw]
 | .ex i d=>by simp [Dro.enc,FT.noList,jw,Dro.noList d]
section
open SeqAt MeetsSeq MeetsSeq2 MeetsSeq3
open AutoSeq1 (wpAny_loadPart')
theorem za2 (b:Str) (u:Tok) (l:Addr) (es:Array DictEntry) (ep:Nat) (dd:Option Addr) (sl:Array (Option Value)) :
  Meets (Builtin.«str.__ne__» ⟨[.str b u,.ref l],[]⟩) (fun _ R s=>s.heap.get? l=some { cls:=.type "dict",dict:=dd,data:=.dict es ep,slots:=sl }/\R (.ok (.ret .notImplemented)) s) :=
 .of_wp fun prog w A R s h=>by
  obtain ⟨hp,g,d,tk,os⟩:=s; obtain ⟨hl,h⟩:=h
  wp_walk using wpAny_loadPart' hl,wpAny_load hl
  exact ⟨_,Ja,h⟩
theorem za0 {prog:Program} {w:World} {K:Type} [DecidableEq K] {knd:KeyKind prog w K} {A:Around} {E:Value->Shared->Prop} {s:Shared} {a:Addr} {ka:List (K × Value)} {Q:Value->Shared->Prop} (da:s.heap.DictOf knd a ka) (b:Str) (u:Tok) (hu:A.units < cLine)
  (h:Q (.bool true) s):wpAny (model prog w) A (compareOp .NotEq (.ref a) (.str b u)) Q E s:=by
 obtain ⟨⟨cls,dd,data,sl⟩,es,ep,ho,⟨hc,hdd,hsl⟩,hd,_⟩:=id da;simp only at hc hd;subst hc hd;refine rc_ne_decline_or (k:=false) da.typeIs (typeIs_str s b u) (by decide) F.sub_str_dict F.slot_dict_ne F.slot_str_ne_refl
  (fun Q' hq=>wpAny_call_entry F.slot_dict_ne da.typeIs F.entry_dict_ne ?_ (F.args_dict_ne_2 _ _))
  (fun Q' hq=>call_meets F.slot_str_ne_refl (typeIs_str s b u) F.entry_str_ne (F.args_str_ne_2 _ _) (za2 b u a es ep dd sl) ⟨ho,hq⟩)
  (fun _ hq=>wpAny_of_eq (rfl:isSame (.ref a) (.str b u)=pure false) hq) (.inr hu) h
 show wpAny _ _ (Builtin.Dict.dictSlotArgs "__ne__" ⟨[.ref a,.str b u],[]⟩ >>= _) _ _ s;refine Ke ?_;unfold Builtin.Dict.dictSlotArgs;refine Ke (wpAny_notOrdered_dict da.typeIs ?_);show wpAny _ _ (pure (Value.ref a,Value.str b u)) _ _ s;refine wpAny_pure ?_;refine Ke (wpAny_isInstance (T:="str") (typeIs_str s b u) F.sub_str_dict ?_);simp only [Bool.not_false,if_true];refine Ke (wpAny_rule ?_);refine Ke (wpAny_pure ?_);exact wpAny_pure ⟨_,Ja,hq⟩
end
inductive Ot (K:Qn) (H:Hp):V->Prop
 | non:Ot K H .non
 | bl (b:Bool):Ot K H (.bl b)
 | int (i:Int):Ot K H (.int i)
 | lst {a:Addr} {xs:List V}:SqL K H a xs->Ot K H (.ref a)
 | tup {a:Addr} {xs:List V}:SqT K H a xs->Ot K H (.ref a)
 | dct {a:Addr} {ks:List (Key × V)}:H a=some (.dK ks)->Ot K H (.ref a)
def Rj (K:Qn):R2:=fun x y H Q=>∃ t,y=.str t/\((∃ s,x=.str s/\Q (.bl (!decide (s=t))) H)\/(Ot K H x/\Q (.bl true) H))
section
variable {X:Cx}
theorem zhv (hu:X.A.units+64 < cLine):OpR X (compareOp .NotEq) (Rj X.K):=by
 intro pins st H0 H x y v u Q I rx ry h;obtain ⟨t,rfl,h⟩:=h;obtain ⟨ut,rfl⟩:=ry;have Sd:X.A.units < cLine:=by omega
 rcases h with ⟨s,rfl,q⟩ | ⟨o,q⟩
 ·obtain ⟨us,rfl⟩:=rx;refine SeqAt.RcNeAt.str_str s us t ut _ _ _ _ ⟨.bl _,H,I,?_,q⟩;show Value.bool _=Value.bool _;by_cases e:s=t
  ·subst e; simp
  ·simp [e]
 ·cases o with
  | non=>cases rx; exact SeqAt.RcNeAt.none_str t ut _ _ _ _ ⟨.bl _,_,I,Ja,q⟩
  | bl b=>cases rx; exact SeqAt.RcNeAt.bool_str b t ut _ _ _ _ ⟨.bl _,_,I,Ja,q⟩
  | int i =>
   obtain ⟨ui,rfl⟩:=rx;exact SeqAt.RcNeAt.int_str i ui t ut _ _ _ _ ⟨.bl _,_,I,Ja,q⟩
  | lst hs =>
   cases rx;obtain ⟨cf,rv,⟨o,n,ho,hc,_,hd⟩,_⟩:=I.list hs;exact SeqAt.RcNeAt.list_str t ut ⟨o,ho,hc,n,hd⟩ Sd _ _ _ _ ⟨.bl _,_,I,Ja,q⟩
  | tup hs =>
   cases rx;obtain ⟨cf,rv,ht,_⟩:=I.tuple hs;exact SeqAt.RcNeAt.tuple_str t ut ht Sd _ _ _ _ ⟨.bl _,_,I,Ja,q⟩
  | @dct a ks e =>
   cases rx;obtain ⟨_,ya,va,ra,da⟩:=(show ObjOk X.prog X.w H _ a (.dK ks) from I.hok a _ e);exact za0 da t ut Sd ⟨.bl _,_,I,Ja,q⟩
end
namespace Dro
def len:Dro->Nat
 | fin _=>2
 | man _=>2
 | ex _ _=>3
end Dro
inductive Nw (K:Qn) (H:Hp) (s:Str):V->Prop
 | str {t:Str}:t ≠ s->Nw K H s (.str t)
 | oth {x:V} {n:String}:TyX K H x (.type n)->kitB n "str"=some false->Ot K H x->Nw K H s x
inductive Nn (K:Qn) (H:Hp) (i:Int):V->Prop
 | int {j:Int}:j ≠ i->Nn K H i (.int j)
 | oth {x:V} {n:String} {b:Bool}:TyX K H x (.type n)->kitB n "int"=some b->(b=true->kitB n "bool"=some true)->Nn K H i x
inductive Lk (K:Qn) (H:Hp):Dro->V->Bool->Prop
 | no {d:Dro} {v:V} {n:String}:TyX K H v (.type n)->kitB n "tuple"=some false->Lk K H d v false
 | len {d:Dro} {a:Addr} {xs:List V}:SqT K H a xs->xs.length ≠ d.len->Lk K H d (.ref a) false
 | word {d:Dro} {a:Addr} {x:V} {xs:List V}:SqT K H a (x::xs)->xs.length+1=d.len->Nw K H d.word x->Lk K H d (.ref a) false
 | num {d:Dro} {a:Addr} {y:V} {xs:List V}:SqT K H a (.str d.word::y::xs)->xs.length+2=d.len->Nn K H d.ix y->Lk K H d (.ref a) false
 | fin {i:Nat} {a:Addr}:SqT K H a [.str "end",.int (i:Int)]->Lk K H (.fin i) (.ref a) true
 | man {i:Nat} {a:Addr}:SqT K H a [.str a9,.int (i:Int)]->Lk K H (.man i) (.ref a) true
 | ex {i:Nat} {d:Dro} {a:Addr} {y:V} {b:Bool}:SqT K H a [.str "exponent",.int (i:Int),y]->Lk K H d y b->Lk K H (.ex i d) (.ref a) b
section
variable {K:Qn} {H H':Hp}
theorem NS:∀ {v:V} {d:Dro},Dp K H v d.enc->∃ A ts,v=.ref A/\SqT K H A ts/\ts.length=d.len/\atI ts 0=some (.str d.word)/\atI ts 1=some (.int (d.ix:Nat))/\(∀ i e,d=.ex i e->∃ y,ts=[.str "exponent",.int (i:Nat),y]/\Dp K H y e.enc)/\∀ x ∈ ts,(∃ s,x=.str s)\/(∃ i,x=.int i)\/∃ e:Dro,Dp K H x e.enc:=by
 intro v d h;cases d with
 | fin i =>
  cases h with
  | tup hs hd =>
   cases hd with
   | cons h1 hd =>
   cases hd with
   | cons h2 hd =>
   cases hd;cases h1;cases h2;exact ⟨_,_,rfl,hs,rfl,rfl,rfl,fun i e z=>(nomatch z),fun x hx=>by
    rcases Qv hx with rfl | hx
    ·exact .inl ⟨_,Ja⟩
    rcases Qv hx with rfl | hx
    ·exact .inr (.inl ⟨_,Ja⟩)
    ·cases hx⟩
 | man i =>
  cases h with
  | tup hs hd =>
   cases hd with
   | cons h1 hd =>
   cases hd with
   | cons h2 hd =>
   cases hd;cases h1;cases h2;exact ⟨_,_,rfl,hs,rfl,rfl,rfl,fun i e z=>(nomatch z),fun x hx=>by
    rcases Qv hx with rfl | hx
    ·exact .inl ⟨_,Ja⟩
    rcases Qv hx with rfl | hx
    ·exact .inr (.inl ⟨_,Ja⟩)
    ·cases hx⟩
 | ex i e =>
  cases h with
  | tup hs hd =>
   cases hd with
   | cons h1 hd =>
   cases hd with
   | cons h2 hd =>
   cases hd with
   | cons h3 hd =>
   cases hd;cases h1;cases h2;exact ⟨_,_,rfl,hs,rfl,rfl,rfl,fun i' e' z=>by injection z with z1 z2; subst z1 z2; exact ⟨_,Ja,h3⟩,fun x hx=>by
    rcases Qv hx with rfl | hx
    ·exact .inl ⟨_,Ja⟩
    rcases Qv hx with rfl | hx
    ·exact .inr (.inl ⟨_,Ja⟩)
    rcases Qv hx with rfl | hx
    ·exact .inr (.inr ⟨_,h3⟩)
    ·cases hx⟩
end
theorem NV {K:Qn} {H:Hp} {s:Str} {i:Int} (h:Dp K H v (.tuple [.str s,.int i])):∃ A,v=.ref A/\SqT K H A [.str s,.int i]:=by
 cases h with
 | tup hs hd =>
  cases hd with
  | cons h1 hd =>
  cases hd with
  | cons h2 hd =>
  cases hd;cases h1;cases h2;exact ⟨_,Ja,hs⟩
theorem Vy {K:Qn} {H:Hp} {s:Str} {i:Int} {d:PyData} (h:Dp K H v (.tuple [.str s,.int i,d])):∃ A y,v=.ref A/\SqT K H A [.str s,.int i,y]/\Dp K H y d:=by
 cases h with
 | tup hs hd =>
  cases hd with
  | cons h1 hd =>
  cases hd with
  | cons h2 hd =>
  cases hd with
  | cons h3 hd =>
  cases hd;cases h1;cases h2;exact ⟨_,_,Ja,hs,h3⟩
def FJ (K:Qn) (n:Nat):Sp:=fun vs H Q _=>∃ (v u:V) (d:Dro) (b:Bool),vs=[u,v]/\Dp K H v d.enc/\Lk K H d u b/\d.deep < n/\∀ H',SB [] H H'->Q (.bl b) H'
theorem zfn {σ:L2.St} {H:Hp} {Q:L2.St->Hp->Prop} (h:Q (σ.set i (some x)) H):gName i x σ H Q:=h
namespace Lad
variable {a b c d l k w g r e:Lad} {m n:Int} {B:Int} {qs:List (Lad × Int)} {p:Lad × Int}
theorem R.pow (h:R e):R (.cons e 1 .nil):=by
 obtain ⟨B,hB,h⟩:=h;exact ⟨B+1,by omega,yn (h.mono (by omega)) (by omega)⟩
end Lad
namespace Lad
variable {a b c l k o h h':Lad} {m n:Int} {w:Bool}
theorem ql (ho:o ≠ .nil):fc w o .nil=o:=by
 cases w with
 | true =>
  cases o with
  | nil=>exact absurd rfl ho
  | cons e m r=>rfl
 | false=>exact fU o
theorem tM (r:R l):dX l 1=l:=by
 refine (r.dX (by decide)).ext r fun x=>?_;rw [vQ]; omega
theorem v7 {e0 r0:Lad} {m0:Int} (ro:R (.cons e0 m0 r0)) (rh:R h) (IG:R h') (hl:h'.lt h=true) (hn:0<=n):(dX (fc true (.cons e0 m0 r0) h') (1+n)).lt (fc true (.cons e0 m0 r0) h)=true:=by
 have n6:h ≠ .nil:=fun z=>by rw [z,eJ] at hl; cases hl
 have e1:fc true (.cons e0 m0 r0) h=.cons (gU e0 h) 1 .nil:=jK n6;rw [e1];cases h' with
 | nil =>
  rw [ql (by simp)];unfold dX;rw [if_neg (by omega)];exact top_lt (oZ ro.exp rh n6)
 | cons f q s =>
  rw [show fc true (.cons e0 m0 r0) (.cons f q s)=.cons (gU e0 (.cons f q s)) 1 .nil from rfl,Aj (by omega)];exact top_lt (qM ro.exp IG rh hl)
end Lad
namespace Gr
variable {b:Bk} {ρ:Str->Lad} {ns:List Str} {C F n:Int} {g X fr:Gr} {p:Tr × Int}
structure Goods (b:Bk) (ρ:Str->Lad) (ns:List Str):Prop where
 rt:∀ n ∈ ns,Lad.R (ρ n)/\ρ n ≠ .nil
 nm:∀ n ∈ ns,∀ kd,b.get n=some kd->∀ r ∈ kd.rs,dV r/\Named ns r.1/\Named ns r.2
 own:∀ n ∈ ns,∀ kd,b.get n=some kd->ρ n=Lad.eI Lad.cT (kd.rs.map (gI b ρ))
theorem Iv (h:g.Ok C) (hp:p ∈ g.ps) (X:Gr) (x:Lad):Lad.S (rk b ρ (ki (wo g p.1 1) X)) x=Lad.S (rk b ρ g) x-Lad.S (hQ b ρ p.1) x+Lad.S (rk b ρ X) x:=by
 rw [sT,sT,sT X];have e:=N3 (fun t=>Lad.S (hQ b ρ t) x) _ (ki (wo g p.1 1) X).ps (g.ps++((p.1,-1)::X.ps)) (Yc _) (fun y=>?_)
 ·rw [e,QL];show wsum _ g.ps+(Lad.S (hQ b ρ p.1) x*-1+wsum _ X.ps)=_;omega
 ·show S (ki (wo g p.1 1) X) y=_;rw [pq,EI h (by decide),vY,oq];show _=S g y+((if p.1=y then -1 else 0)+S X y);have h1:=iS h hp;have h2:=(bW h hp).2.2.1;by_cases e:y=p.1
  ·rw [if_pos e,if_pos e.symm,e,h1]
   split <;> omega
  ·rw [if_neg e,if_neg (fun z=>e z.symm)];omega
theorem BE (h:g.Ok C) (hp:p ∈ g.ps) (x:Lad):Lad.S (rk b ρ (wo g p.1 1)) x=Lad.S (rk b ρ g) x-Lad.S (hQ b ρ p.1) x:=by
 have h1:=Iv (b:=b) (ρ:=ρ) h hp .nil x;rw [An (iC h (by decide))] at h1;rw [h1,qd];show _-_+Lad.aK [] x=_;rw [Lad.bG]; omega
theorem rQ (G:Goods b ρ ns) {t:Tr} (hk:t.1 ∈ ns) (ho:t.2.Ok C) (hn:Named ns t.2):Lad.R (hQ b ρ t) :=
 (G.rt _ hk).1.fc (qe ho (RN.named G.rt hn))
theorem vT (G:Goods b ρ ns) (ho:g.Ok C) (hn:Named ns g):Lad.R (rk b ρ g):=qe ho (RN.named G.rt hn)
theorem Az (G:Goods b ρ ns) (h:g.Ok C) (hn:Named ns g) (hp:p ∈ g.ps):rk b ρ g=(rk b ρ (wo g p.1 1)).fw (hQ b ρ p.1):=by
 obtain ⟨h1,h2⟩:=aR.mp hn p hp;refine (vT G h hn).ext ((vT G (iC h (by decide)) (gN hn _ _)).fw (rQ G h1 (bW h hp).2.1 h2)) fun x=>?_;rw [Lad.fV,BE h hp]; omega
theorem vf (G:Goods b ρ ns) (h:g.Ok C) (hn:Named ns g) (hX:X.Ok F) (hF:1<=F) (Zm:Named ns X) (hp:p ∈ g.ps):rk b ρ (ki (wo g p.1 1) X)=(rk b ρ (wo g p.1 1)).fw (rk b ρ X):=by
 have c2:=pB h hp;refine (vT G (fN (iC h (by decide)) hX (by omega) hF) (gO (gN hn _ _) Zm)).ext ((vT G (iC h (by decide)) (gN hn _ _)).fw (vT G hX Zm)) fun x=>?_;rw [Lad.fV,Iv h hp,BE h hp]
theorem Dg (G:Goods b ρ ns) {t:Tr} {m:Int} (h1:dE t.1) (h2:t.2.Ok C) (hk:t.1 ∈ ns) (hn:Named ns t.2) (hm:1<=m) (hC:m < C):rk b ρ (one t m)=Lad.dX (hQ b ρ t) m:=by
 have rt:=rQ G hk h2 hn;have e:rk b ρ (one t m)=(Lad.dX (hQ b ρ t) m).fw (rk b ρ .nil):=AA (C:=C) (qf h1 h2 hm hC) (RN.named G.rt (kO hk hn m));rw [e,qd];obtain ⟨B,hB,hb⟩:=rt.dX (m:=m) (by omega);exact Lad.vO hb
def Uj (b:Bk) (ρ:Str->Lad) (n:Int) (fr:Gr) (r:Pl) (p:Tr × Int):Lad:=if r=[] then rk b ρ fr else Lad.dX (hQ b ρ (chg b n fr r p)) (1+b.far p.1.1 n)
theorem ph (hn:0<=n) (vy:fr.Ok F) (hF:1<=F) (OW:Named ns fr) (h:g.Ok C) (hg:Named ns g) (hp:p ∈ g.ps) {r:Pl} {k:Str} (hk:bareAt p.1.2 r=some k) :
  dE (chg b n fr r p).1/\(chg b n fr r p).2.Ok (C+F+n+2)/\(chg b n fr r p).1 ∈ ns/\Named ns (chg b n fr r p).2:=by
 obtain ⟨h1,h2⟩:=aR.mp hg p hp;obtain ⟨o1,o2,_⟩:=bW h hp;exact ⟨o1,kA hn hF vy o2 hk,h1,kD OW hk h2⟩
theorem Df (G:Goods b ρ ns) (hn:0<=n) (vy:fr.Ok F) (hF:1<=F) (OW:Named ns fr) (h:g.Ok C) (hg:Named ns g) {i:Nat} {r:Pl} {k:Str} (ep:g.ps[i]?=some p) (hk:bareAt g (i::r)=some k) :
  rk b ρ (stk b n fr (i::r) g).1=(rk b ρ (wo g p.1 1)).fw (Uj b ρ n fr r p):=by
 have hp:=Qu ep;unfold Uj;by_cases hr:r=[]
 ·subst hr;rw [if_pos rfl,fu ep];exact vf G h hg vy hF OW hp
 ·rw [if_neg hr,cY ep hr];obtain ⟨p',e',hb⟩:=bC hr hk;rw [ep] at e';cases e';obtain ⟨c1,c2,c3,c4⟩:=ph (b:=b) hn vy hF OW h hg hp hb;have hf:=b.kS p.1.1 hn;have c2p:=pB h hp;have ho:=qf (m:=1+b.far p.1.1 n) c1 c2 (by omega) (by omega);show rk b ρ (ki (wo g p.1 1) (one (chg b n fr r p) (1+b.far p.1.1 n)))=_;rw [vf G h hg ho (by omega) (kO c3 c4 _) hp,Dg G c1 c2 c3 c4 (by omega) (by omega)]
theorem EC (G:Goods b ρ ns) {k:Str} {kd:Kd} (hk:k ∈ ns) (e:b.get k=some kd) {r:Ru} (hr:r ∈ lN::kd.rs):Lad.Le (gI b ρ r) (ρ k):=by
 rw [G.own k hk kd e];refine Lad.jU _ _ _ ?_;rcases Qv hr with z | z
 ·rw [z,show gI b ρ lN=Lad.cT from Px b ρ]; exact bM ..
 ·exact bR _ (Ku ⟨r,z,Ja⟩)
theorem yu:dV lN/\Named ns lN.1/\Named ns lN.2:=by
 refine ⟨⟨trivial,trivial,by decide⟩,?_,?_⟩
 ·intro x hx; exact nomatch hx
 ·intro x hx; exact nomatch hx
theorem yg (G:Goods b ρ ns) {k:Str} {kd:Kd} (hk:k ∈ ns) (e:b.get k=some kd) {r:Ru} (hr:r ∈ lN::kd.rs):dV r/\Named ns r.1/\Named ns r.2:=by
 rcases Qv hr with z | z
 ·rw [z]; exact yu
 ·exact G.nm k hk kd e r z
theorem oV (G:Goods b ρ ns) {k:Str} {kd:Kd} (hk:k ∈ ns) (e:b.get k=some kd) {r:Ru} (hr:r ∈ lN::kd.rs) (hn:0<=n) :
  (fM r n).Ok (1000000001*n+2000000002)/\Named ns (fM r n)/\rk b ρ (fM r n)=(rk b ρ r.1).fw (Lad.dX (rk b ρ r.2) n)/\Lad.R (rk b ρ r.1)/\Lad.R (rk b ρ r.2):=by
 obtain ⟨r1,r2,r3⟩:=yg G hk e hr;refine ⟨qJ r1 hn,gO r2 (oF r3 n),Dj r1 hn G.rt r2 r3,vT G r1.1 r2,vT G r1.2.1 r3⟩
theorem yj (G:Goods b ρ ns) {k:Str} (hk:k ∈ ns):hQ b ρ (k,.nil)=ρ k:=by
 show fc (b.wide k) (ρ k) (rk b ρ .nil)=ρ k;rw [qd];exact Lad.ql (G.rt k hk).2
theorem Ez {k:Str} (n:Int):b.far k n=if b.wide k=true then n else 0:=by
 unfold Bk.far Bk.wide;cases b.get k with
 | none=>rfl
 | some kd=>rfl
theorem rL (G:Goods b ρ ns) {k:Str} {kd:Kd} {r:Ru} (e:b.get k=some kd) (hr:r ∈ lN::kd.rs) (hn:0<=n):∀ {pl:Pl} {g:Gr},g.Ok C->Named ns g->bareAt g pl=some k->(rk b ρ (stk b n (fM r n) pl g).1).lt (rk b ρ g)=true
 | [],g,_,_,h=>nomatch h
 | i::pl,g,ho,hg,hb=>by
  have hex:∃ p,g.ps[i]?=some p:=by
   cases hx:g.ps[i]? with
   | none=>rw [bareAt,hx] at hb; cases hb
   | some p=>exact ⟨p,Ja⟩
  obtain ⟨p,ep⟩:=hex;have hp:=Qu ep;obtain ⟨n1,n2⟩:=aR.mp hg p hp;obtain ⟨o1,o2,_⟩:=bW ho hp;have hk:k ∈ ns:=fE hg hb;obtain ⟨f1,f2,f3,f4,f5⟩:=oV (n:=n) G hk e hr hn;have f6:(1:Int)<=1000000001*n+2000000002:=by omega
  rw [Df G hn f1 f6 f2 ho hg ep hb,Az G ho hg hp];have rW:=vT G (iC (t:=p.1) (m:=1) ho (by decide)) (gN hg p.1 1);have rt:=rQ G n1 o2 n2;unfold Uj;by_cases fy:pl=[]
  ·subst fy;rw [if_pos rfl];obtain ⟨p',e',z⟩:=bT hb;rw [ep] at e';cases e';refine Lad.zm rW (vT G f1 f2) rt ?_;rw [z,yj G hk,f3];exact Lad.Jh (Lad.zx f4 f5 hn) (EC G hk e hr)
  ·rw [if_neg fy];obtain ⟨p',e',KH⟩:=bC fy hb;rw [ep] at e';cases e';obtain ⟨c1,c2,c3,c4⟩:=ph (b:=b) hn f1 f6 f2 ho hg hp KH;have hf:=b.kS p.1.1 hn;refine Lad.zm rW ((rQ G c3 c2 c4).dX (by omega)) rt ?_;have ih:=rL G e hr hn o2 n2 KH;have rh:=vT G o2 n2;have IG:=vT G c2 c4;show (Lad.dX (fc (b.wide p.1.1) (ρ p.1.1) (rk b ρ (chg b n (fM r n) pl p).2)) (1+b.far p.1.1 n)).lt (fc (b.wide p.1.1) (ρ p.1.1) (rk b ρ p.1.2))=true;obtain ⟨ro,Yr⟩:=G.rt _ n1;rw [Ez];cases hw:b.wide p.1.1 with
   | true =>
    rw [if_pos rfl];cases hq:ρ p.1.1 with
    | nil=>exact absurd hq Yr
    | cons e0 m0 r0 =>
     rw [hq] at ro;exact Lad.v7 ro rh IG ih hn
   | false =>
    rw [if_neg (by decide),Int.add_zero,Lad.tM (ro.fc IG)];exact Lad.DF ro IG rh Yr ih
end Gr
structure LFitW (l:Lad):Prop where
 deep:l.deep<=29
 parts:l.parts<=900000
 num:∀ p ∈ l.ps,0<=p.2/\p.2 < 2 ^ 2000
theorem LFit.w {l:Lad} (h:LFit l):LFitW l:=⟨Yb h.deep (by decide),Yb h.parts (by decide),h.num⟩
def Gr.eA (b:Bk) (ρ:Str->Lad) (ns:List Str):Gr->Prop
 | .nil=>True
 | .cons k g m r=>(k ∈ ns/\k ∈ b.names/\ρ k ≠ .nil/\LFitW (ρ k)/\LFitW (Gr.rk b ρ g)/\LFitW (Gr.hQ b ρ (k,g))/\0<=m/\m < 2 ^ 2000/\((Gr.rkT b ρ (.cons k g m r)).flatMap Lad.ps).length<=1900000)/\Gr.eA b ρ ns g/\Gr.eA b ρ ns r
namespace Gr
variable {b:Bk} {ρ:Str->Lad} {ns:List Str}
theorem qR.w:∀ {g:Gr},qR b ρ ns g->eA b ρ ns g
 | .nil,_=>trivial
 | .cons k g m r,h=>by
  obtain ⟨⟨h1,h2,h3,h4,h5,h6,h7,h8,h9⟩,hg,hr⟩:=h;exact ⟨⟨h1,h2,h3,h4.w,h5.w,h6.w,h7,h8,Yb h9 (by decide)⟩,qR.w hg,qR.w hr⟩
theorem eA.at:∀ {g:Gr},eA b ρ ns g->∀ p ∈ g.ps,(p.1.1 ∈ ns/\p.1.1 ∈ b.names/\ρ p.1.1 ≠ .nil/\LFitW (ρ p.1.1)/\LFitW (rk b ρ p.1.2)/\LFitW (hQ b ρ p.1)/\0<=p.2/\p.2 < 2 ^ 2000)/\eA b ρ ns p.1.2
 | .nil,_,p,hp=>nomatch hp
 | .cons k g m r,h,p,hp=>by
  obtain ⟨⟨h1,h2,h3,h4,h5,h6,h7,h8,_⟩,hg,hr⟩:=h;rcases Qv hp with rfl | hp
  ·exact ⟨⟨h1,h2,h3,h4,h5,h6,h7,h8⟩,hg⟩
  ·exact eA.at hr p hp
theorem eA.len:∀ {g:Gr},eA b ρ ns g->((rkT b ρ g).flatMap Lad.ps).length<=1900000
 | .nil,_=>by simp [rkT]
 | .cons k g m r,h=>h.1.2.2.2.2.2.2.2.2
theorem eA.mono {ms:List Str} (h:∀ n ∈ ns,n ∈ ms):∀ {g:Gr},eA b ρ ns g->eA b ρ ms g
 | .nil,_=>trivial
 | .cons k g m r,⟨h1,h2,h3⟩=>⟨⟨h _ h1.1,h1.2⟩,eA.mono h h2,eA.mono h h3⟩
end Gr
def WI (K:Qn) (C:Addr):Sp:=fun vs H Q _=>∃ (v u t:V) (b:Bk) (n:Str) (o l:Lad),vs=[v,.str n,u,t]/\hJ K C H v b/\b.length<=1000/\n ∈ b.names/\(LA K H u o/\o ≠ .nil/\LFitW o)/\(LA K H t l/\LFitW l)/\∀ (x:V) (H':Hp),SB [] H H'->LA K H' x (fc (b.wide n) o l)->Q x H'
def N7 (K:Qn) (C:Addr) (m:Nat):Sp:=fun vs H Q _=>∃ (v t:V) (d:Addr) (b:Bk) (ρ:Str->Lad) (ns:List Str) (k:Str) (g:Gr),vs=[v,.ref d,t]/\hJ K C H v b/\b.length<=1000/\qQ K H d ρ ns/\Dp K H t (Gr.aG (k,g))/\g.deep < m/\(k ∈ ns/\k ∈ b.names/\ρ k ≠ .nil/\LFitW (ρ k)/\LFitW (Gr.rk b ρ g))/\Gr.eA b ρ ns g/\g.parts<=900/\∀ (x:V) (H':Hp),SB [] H H'->LA K H' x (Gr.hQ b ρ (k,g))->Q x H'
def CT (K:Qn) (C:Addr) (m:Nat):Sp:=fun vs H Q _=>∃ (v u:V) (d:Addr) (b:Bk) (ρ:Str->Lad) (ns:List Str) (g:Gr),vs=[v,.ref d,u]/\hJ K C H v b/\b.length<=1000/\qQ K H d ρ ns/\GA K H u g/\g.deep < m/\Gr.eA b ρ ns g/\g.parts<=900/\∀ (x:V) (H':Hp),SB [] H H'->LA K H' x (Gr.rk b ρ g)->Q x H'
theorem zb6 {w:World} {K:Qn} {fd:FuncData} {C:Addr} {ps:List Str}:FnOk P w K mg base CX0 k f fd ps (CT K C 0):=tG fun vs H Q E ⟨_,_,_,_,_,_,_,_,_,_,_,_,h,_⟩=>by omega
structure LFitL (l:Lad):Prop where
 deep:l.deep<=30
 parts:l.parts<=900000
 num:∀ p ∈ l.ps,0<=p.2/\p.2 < 2 ^ 400000
def Gr.hI (b:Bk) (ρ:Str->Lad) (ns:List Str):Gr->Prop
 | .nil=>True
 | .cons k g m r=>(k ∈ ns/\k ∈ b.names/\ρ k ≠ .nil/\LFitL (ρ k)/\LFitL (Gr.rk b ρ g)/\LFitL (Gr.hQ b ρ (k,g))/\0<=m/\m < 2 ^ 400000/\((Gr.rkT b ρ (.cons k g m r)).map Lad.parts).sum<=900000)/\Gr.hI b ρ ns g/\Gr.hI b ρ ns r
namespace Gr
variable {b:Bk} {ρ σ:Str->Lad} {C:Int} {ns:List Str}
theorem jO {x:Nat} (hk:∀ n ∈ ns,(ρ n).Ok (2 ^ x)):∀ {g:Gr},Named ns g->g.Ok (2 ^ 2100)->(∀ l ∈ rkT b ρ g,l.Ok (2 ^ (x+2102*g.parts)))/\∀ y,((rkT b ρ g).map fun l=>Lad.S l y).sum < 2 ^ (x+2102*g.parts)
 | .nil,_,_=>And.intro (fun l hl=>nomatch hl) (fun y=>by
  show (0:Int) < _;have:=i8 (x+2102*Gr.nil.parts); omega)
 | .cons k g m r,h,ho=>by
  obtain ⟨_,hg,xI,qA,hr,_⟩:=ho;have qB:k ∈ ns:=h ((k,g),m) (bM ..);obtain ⟨g1,g2⟩:=jO hk (g:=g) (fun x hx=>h x (bR _ (jA _ hx))) hg;obtain ⟨r1,r2⟩:=jO hk (g:=r) (fun x hx=>h x (bR _ (kP _ hx))) hr;have e1:(Gr.cons k g m r).parts=1+g.parts+r.parts:=rfl;have p0:=i8 (x+2102*g.parts);have px:=i8 x;have io:(Lad.aY (rkT b ρ g)).Ok (2 ^ (x+2102*g.parts)):=Lad.dU g1 (by omega) (Kw _) g2;have lo:=Lad.jh (w:=b.wide k) (hk k qB) io px p0;have m1:=jx (show x<=x+2102*g.parts by omega);have Ji:(fc (b.wide k) (ρ k) (Lad.aY (rkT b ρ g))).Ok (2 ^ (x+2102*g.parts+1)):=lo.mono (by rw [BB]; omega);have to:=Lad.fZ Ji (show 0<=m by omega);have q0:=i8 (x+2102*g.parts+1);have hb:2 ^ (x+2102*g.parts+1)*m+2 ^ (x+2102*g.parts+1)<=2 ^ (x+2102*g.parts+2101):=by
   have:(2:Int) ^ (x+2102*g.parts+2101)=2 ^ (x+2102*g.parts+1)*2 ^ 2100:=by rw [<- Int.pow_add]
   rw [this];have h2:(2:Int) ^ (x+2102*g.parts+1)*(m+1)<=2 ^ (x+2102*g.parts+1)*2 ^ 2100:=Int.mul_le_mul_of_nonneg_left (by omega) (by omega);rw [Int.mul_add,Int.mul_one] at h2;exact h2
  have to2:=to.mono hb;have w1:=jx (show x+2102*g.parts+2101<=x+2102*(1+g.parts+r.parts)-1 by omega);have w2:=jx (show x+2102*r.parts<=x+2102*(1+g.parts+r.parts)-1 by omega);have w3:=BB (x+2102*(1+g.parts+r.parts)-1);rw [show x+2102*(1+g.parts+r.parts)-1+1=x+2102*(1+g.parts+r.parts) by omega] at w3;have w0:=i8 (x+2102*(1+g.parts+r.parts)-1);rw [e1];refine ⟨fun l hl=>?_,fun y=>?_⟩
  ·rcases Qv hl with rfl | hl
   ·exact to2.mono (by omega)
   ·exact (r1 l hl).mono (by omega)
  ·show Lad.S (Lad.dX (fc (b.wide k) (ρ k) (Lad.aY (rkT b ρ g))) m) y+((rkT b ρ r).map fun l=>Lad.S l y).sum < _;have s2:=r2 y;have s3:Lad.S (Lad.dX (fc (b.wide k) (ρ k) (Lad.aY (rkT b ρ g))) m) y < 2 ^ (x+2102*g.parts+2101)\/Lad.S (Lad.dX (fc (b.wide k) (ρ k) (Lad.aY (rkT b ρ g))) m) y<=0:=by
    rcases Lad.c6 to2 y with ⟨h1,_⟩ | ⟨mm,_,h2,_,h4⟩
    ·right; omega
    ·left; omega
   have w4:=i8 (x+2102*g.parts+2101);rcases s3 with s3 | s3 <;> omega
theorem lM {P D x:Nat} (hk:∀ n ∈ ns,n ∈ b.names/\ρ n ≠ .nil/\(ρ n).parts<=P/\(ρ n).deep<=D/\(ρ n).Ok (2 ^ x)) (hP:1<=P):∀ {g:Gr},Named ns g->g.Ok (2 ^ 2100)->P*g.parts<=890000->D+g.deep<=29->x+2102*g.parts<=400000->hI b ρ ns g
 | .nil,_,_,_,_,_=>trivial
 | .cons k g m r,h,ho,hp,hd,hx=>by
  have B7:∀ n ∈ ns,(ρ n).parts<=P/\(ρ n).deep<=D:=fun n hn=>⟨(hk n hn).2.2.1,(hk n hn).2.2.2.1⟩;have B4:∀ n ∈ ns,(ρ n).Ok (2 ^ x):=fun n hn=>(hk n hn).2.2.2.2;have nm:2 ^ 2100<=(2:Int) ^ 400000:=jx (by decide);obtain ⟨qB,qW⟩:k ∈ ns/\(Named ns g/\Named ns r):=⟨h ((k,g),m) (bM ..),fun x hx=>h x (bR _ (jA _ hx)),fun x hx=>h x (bR _ (kP _ hx))⟩;obtain ⟨IX,hg,xI,qA,hr,su⟩:=ho;have ho:(Gr.cons k g m r).Ok (2 ^ 2100):=⟨IX,hg,xI,qA,hr,su⟩;have e1:(Gr.cons k g m r).parts=1+g.parts+r.parts:=rfl;have e2:(Gr.cons k g m r).deep=max (1+g.deep) r.deep:=rfl;rw [e1,Nat.mul_add,Nat.mul_add,Nat.mul_one] at hp;rw [e1] at hx;obtain ⟨s1,s2⟩:=dR B7 h;obtain ⟨g1,g2⟩:=dR B7 qW.1;obtain ⟨n1,n2⟩:=jO B4 qW.1 hg;have p0:=i8 (x+2102*g.parts);have px:=i8 x;have io:(Lad.aY (rkT b ρ g)).Ok (2 ^ (x+2102*g.parts)):=Lad.dU n1 (by omega) (Kw _) n2;have lo:=(Lad.jh (w:=b.wide k) (B4 k qB) io px p0);have m1:=jx (show x<=x+2102*g.parts by omega);have m2:=jx (show x+2102*g.parts+1<=400000 by omega);have m3:=BB (x+2102*g.parts);obtain ⟨kb,DG,kp,kd,kx⟩:=hk k qB;have num:∀ {l:Lad},l.Ok (2 ^ 400000)->∀ p ∈ l.ps,0<=p.2/\p.2 < 2 ^ 400000:=fun hl p hp=>by
   have:=(Lad.bj.mp hl).1 p hp;exact ⟨by omega,this.2.2⟩
  have ip:(Lad.aY (rkT b ρ g)).parts<=P*g.parts:=Yb (Lad.cK _) g1;have DJ:(Lad.aY (rkT b ρ g)).deep<=D+g.deep:=Lad.dG g2;have lp:=Lad.iY (b.wide k) (ρ k) (Lad.aY (rkT b ρ g));have ld:=Lad.jW (w:=b.wide k) (o:=ρ k) (l:=Lad.aY (rkT b ρ g)) (n:=D+g.deep) (by omega) DJ;refine ⟨⟨qB,kb,DG,⟨by omega,by omega,num (kx.mono (by omega))⟩,⟨by show (Lad.aY (rkT b ρ g)).deep<=30; omega,by show (Lad.aY (rkT b ρ g)).parts<=900000; omega,num (io.mono (by omega))⟩,⟨by show (fc (b.wide k) (ρ k) (Lad.aY (rkT b ρ g))).deep<=30; omega,by show (fc (b.wide k) (ρ k) (Lad.aY (rkT b ρ g))).parts<=900000; omega,num (lo.mono (by omega))⟩,by omega,by omega,?_⟩,lM hk hP qW.1 hg (by omega) (by omega) (by omega),lM hk hP qW.2 hr (by omega) (by omega) (by omega)⟩;rw [e1,Nat.mul_add,Nat.mul_add,Nat.mul_one] at s1;exact Yb s1 (by omega)
end Gr
theorem Lad.jM {bs:List (Lad × Int)} (h:∀ b ∈ bs,b.1.deep<=30):SeqAt.shaped (.list (bs.map Lad.aB))=true:=by
 have h1:PyData.canLayAll0 (bs.map Lad.aB)=true:=by
  induction bs with
  | nil=>simp [PyData.canLayAll0]
  | cons b r ih =>
   have:=ih fun c hc=>h c (bR _ hc);rw [Ky,PyData.canLayAll0,this];simp [Lad.aB,PyData.canLay0,PyData.canLayAll0,Lad.enc,Lad.kQ]
 have h2:PyData.depthAll (bs.map Lad.aB)<=62:=by
  induction bs with
  | nil=>simp [PyData.depthAll]
  | cons b r ih =>
   have e1:=ih (fun c hc=>h c (bR _ hc)) (by rw [Ky,PyData.canLayAll0,Bool.and_eq_true] at h1; exact h1.2);have e2:=h b (bM ..);have e3:=Lad.dv b;rw [Ky,PyData.depthAll];omega
 have h3:(PyData.list (bs.map Lad.aB)).depth=PyData.depthAll (bs.map Lad.aB)+1:=by simp [PyData.depth]
 unfold SeqAt.shaped;rw [PyData.canLay0,h1,Bool.true_and];exact Ya (by omega)
section
open PyProof.Rows PySem.AutoSeq1
theorem z5c (l:Addr) (items:Array Value) (n:Nat) (b:Addr) (mS:Array Value) (n2:Nat) (dd:Option Addr) (ss:Array (Option Value)) (F9:¬(!items.isEmpty&&Builtin.List.listTooLong (items.size+mS.size))=true) (jZ:items.size<=sizeLine) (dM:items.size+mS.size<=sizeLine+1) :
  Meets (Builtin.«list.extend» ⟨[.ref l,.ref b],[]⟩) (fun _ R s=>s.heap.get? l=some { cls:=.type "list",dict:=none,data:=.seq items n,slots:=#[] }/\s.heap.get? b=some { cls:=.type "tuple",dict:=dd,data:=.seq mS n2,slots:=ss }/\R (.ok (.ret Value.none)) { s with heap:=s.heap.update l (Obj.mapSeq fun x=>x++mS),toks:=s.toks }) :=
 .of_wp fun prog w A R s h=>by
  obtain ⟨hp,g,d,tk,os⟩:=s; obtain ⟨hl,hb,h⟩:=h; have f1:=idx_int; have f2:=PySem.AutoSeq1.sub_tuple_tuple; have f3:=PySem.AutoSeq1.sub_list_list; have f4:=PySem.AutoSeq1.sub_tuple_list; have f5:=PySem.AutoSeq1.sub_list_tuple;
  have hz':(items++mS).size<=sizeLine+1:=by rw [Array.size_append]; exact dM
  wp_walk using (wpAny_updateSeq hl rfl (hz:=jZ) (_hz':=hz')),wpAny_loadPart' hl,wpAny_loadPart' hb; exact ⟨_,Ja,h⟩
end
def zlw (K:Qn):V->List V->Hp->VK->Prop:=fun x vs H Q=>∃ l b xs zs,x=.ref l/\vs=[.ref b]/\H l=some (.lst xs)/\SqT K H b zs/\xs.length+zs.length<=sizeLine/\Q .non (upd H l (.lst (xs++zs)))
theorem zba {X:Cx}:MtM X "list.extend" (zlw X.K):=by
 intro pins s σ H x vs v us Q I rx rv h;obtain ⟨l,b,xs,zs,rfl,rfl,hH,hB,hz,q⟩:=h;cases rx;obtain ⟨u,rfl,ru⟩:=rv.one;cases ru;obtain ⟨z,cf,n,r,hl,e⟩:=I.lstM hH;obtain ⟨AQ,r2,⟨⟨oc,od,oda,os⟩,e2,c2,n2,d2⟩,yI⟩:=I.tuple hB;dsimp only at c2 d2;subst c2 d2;have jC:=r2.length;have oL:cf.toArray.size+AQ.toArray.size<=sizeLine:=by rw [List.size_toArray,List.size_toArray]; omega
 have JK:¬ (!cf.toArray.isEmpty&&Builtin.List.listTooLong (cf.toArray.size+AQ.toArray.size))=true:=by
  rw [notLongL oL,Bool.and_false];exact Bool.false_ne_true
 refine call_meets PySem.F.slot_list_extend ⟨_,e,Ja⟩ PySem.F.entry_list_extend (PySem.F.args_list_extend_2 _ _)
  (z5c l cf.toArray n b AQ.toArray n2 od os JK (by rw [List.size_toArray]; omega) (by omega)) ⟨e,e2,?_⟩
 refine ⟨.non,_,I.lset (its':=cf++AQ) hH e (by simp) (r.append r2) ?_,Ja,q⟩;rw [Yf];omega
namespace Gr
variable {b:Bk} {ρ:Str->Lad} {ns:List Str}
theorem hI.at:∀ {g:Gr},hI b ρ ns g->∀ p ∈ g.ps,(p.1.1 ∈ ns/\p.1.1 ∈ b.names/\ρ p.1.1 ≠ .nil/\LFitL (ρ p.1.1)/\LFitL (rk b ρ p.1.2)/\LFitL (hQ b ρ p.1)/\0<=p.2/\p.2 < 2 ^ 400000)/\hI b ρ ns p.1.2
 | .nil,_,p,hp=>nomatch hp
 | .cons k g m r,h,p,hp=>by
  obtain ⟨⟨h1,h2,h3,h4,h5,h6,h7,h8,_⟩,hg,hr⟩:=h;rcases Qv hp with rfl | hp
  ·exact ⟨⟨h1,h2,h3,h4,h5,h6,h7,h8⟩,hg⟩
  ·exact hI.at hr p hp
theorem hI.sum:∀ {g:Gr},hI b ρ ns g->((rkT b ρ g).map Lad.parts).sum<=900000
 | .nil,_=>by simp [rkT]
 | .cons k g m r,h=>h.1.2.2.2.2.2.2.2.2
theorem hI.named:∀ {g:Gr},hI b ρ ns g->Named ns g
 | .nil,_=>fun x hx=>nomatch hx
 | .cons k g m r,h=>by
  intro x hx;rcases Qv hx with z | hx
  ·rw [z]; exact h.1.1
  ·rcases Qw hx with hx | hx
   ·exact hI.named h.2.1 x hx
   ·exact hI.named h.2.2 x hx
end Gr
namespace Gr
theorem uk {g:Gr} {p:Tr × Int} (h:p ∈ g.ps):p ∈ g.within:=by
 rw [d7]; exact List.mem_flatMap.mpr ⟨p,h,bM ..⟩
theorem tJ {g:Gr} {p x:Tr × Int} (h:p ∈ g.ps) (hx:x ∈ p.1.2.within):x ∈ g.within:=by
 rw [d7]; exact List.mem_flatMap.mpr ⟨p,h,bR _ hx⟩
end Gr
inductive z0q {α β:Type} (F:α->β->Prop):List α->List β->Prop
 | nil:z0q F [] []
 | cons {a:α} {b:β} {as:List α} {bs:List β}:F a b->z0q F as bs->z0q F (a::as) (b::bs)
namespace z0q
variable {α β:Type} {F G:α->β->Prop}
theorem length:∀ {as:List α} {bs:List β},z0q F as bs->as.length=bs.length
 | _,_,.nil=>rfl
 | _,_,.cons _ h=>by rw [Yk,Yk,h.length]
theorem mono:∀ {as:List α} {bs:List β},z0q F as bs->(∀ a b,F a b->G a b)->z0q G as bs
 | _,_,.nil,_=>.nil
 | _,_,.cons h r,g=>.cons (g _ _ h) (r.mono g)
theorem append:∀ {as as':List α} {bs bs':List β},z0q F as bs->z0q F as' bs'->z0q F (as++as') (bs++bs')
 | _,_,_,_,.nil,h=>h
 | _,_,_,_,.cons h r,g=>.cons h (r.append g)
theorem get:∀ {as:List α} {bs:List β} {i:Nat} {a:α},z0q F as bs->as[i]?=some a->∃ b,bs[i]?=some b/\F a b
 | _,_,_,_,.nil,h=>nomatch h
 | _,_,0,_,.cons h r,e=>by
  cases e;exact ⟨_,Ja,h⟩
 | _,_,i+1,_,.cons h r,e=>r.get (i:=i) e
end z0q
def CA (K:Qn) (H:Hp) (v:V) (k:Kd):Prop:=∃ (t l:Addr) (zs:List V),v=.ref t/\SqT K H t [.bl k.w,.ref l]/\H l=some (.lst zs)/\Bears K H Ru.enc zs k.rs
def kr (H:Hp) (ps:List Addr):Prop:=∀ a ∈ ps,∀ zs,H a ≠ some (.lst zs)
theorem kr.nil {H:Hp}:kr H []:=fun _ h=>nomatch h
theorem kr.one {H:Hp} (h:H d=some (.dK aS)):kr H [d]:=fun a ha zs z=>by
 rw [Qy ha,h] at z; cases z
theorem CA.sb {K:Qn} {H H':Hp} {ps:List Addr} {v:V} {k:Kd} (h:CA K H v k) (e:SB ps H H') (hn:kr H ps):CA K H' v k:=by
 obtain ⟨t,l,zs,e1,e2,e3,e4⟩:=h;exact ⟨t,l,zs,e1,e.aL e2,e.keep _ _ e3 (fun z=>hn l z zs e3),e4.sb e Ru.aj⟩
abbrev jT (ns:List Str) (us:List V):List (Key × V):=List.zipWith (fun (n:Str) (u:V)=>((Sum.inr n:Key),u)) ns us
def xw (K:Qn) (H:Hp) (d:Addr) (b:Bk):Prop:=∃ us:List V,H d=some (.dK (jT b.names us))/\z0q (CA K H) us b
theorem xw.sb {K:Qn} {H H':Hp} {ps:List Addr} {d:Addr} {b:Bk} (h:xw K H d b) (e:SB ps H H') (hd:d ∉ ps) (hn:kr H ps):xw K H' d b:=by
 obtain ⟨us,h1,h2⟩:=h;exact ⟨us,e.keep _ _ h1 hd,h2.mono fun _ _ q=>q.sb e hn⟩
def vU (K:Qn) (H:Hp) (d:Addr) (b:Bk):Prop:=∃ aS:List (Key × V),H d=some (.dK aS)/\∀ n kd,b.get n=some kd->∃ v,valV aS (Sum.inr n)=some v/\CA K H v kd
theorem vU.sb {K:Qn} {H H':Hp} {ps:List Addr} {d:Addr} {b:Bk} (h:vU K H d b) (e:SB ps H H') (hd:d ∉ ps) (hn:kr H ps):vU K H' d b:=by
 obtain ⟨aS,h1,h2⟩:=h;exact ⟨aS,e.keep _ _ h1 hd,fun n kd hk=>by obtain ⟨v,h3,h4⟩:=h2 n kd hk; exact ⟨v,h3,h4.sb e hn⟩⟩
theorem vU.ef {K:Qn} {H H':Hp} (h:vU K H d b) (e:SB [] H H'):vU K H' d b:=h.sb e aP kr.nil
theorem vU.val {K:Qn} {H:Hp} {n:Str} {kd:Kd} (h:vU K H d b) (e:b.get n=some kd):∃ v,DGet H d (.str n) (some v)/\CA K H v kd:=by
 obtain ⟨aS,h1,h2⟩:=h;obtain ⟨v,h3,h4⟩:=h2 n kd e;exact ⟨v,iN h1 h3,h4⟩
theorem N0 {F:V->Kd->Prop} {n:Str} {kd:Kd}:∀ {b:Bk} {us:List V},z0q F us b->b.get n=some kd->∃ v,valV (jT b.names us) (Sum.inr n)=some v/\F v kd
 | [],_,_,h=>nomatch h
 | k::r,us,hp,h=>by
  cases hp with
  | @cons u _ tK _ h1 h2 =>
  by_cases e:k.n=n
  ·have:kd=k:=by
    unfold Bk.get at h;rw [List.find?_cons_of_pos (by simpa using e)] at h;exact (Yd h).symm
   rw [this];refine ⟨u,?_,h1⟩;show valV (((Sum.inr k.n:Key),u)::_) (Sum.inr n)=some u;rw [e];simp [valV]
  ·have h':Bk.get r n=some kd:=by
    unfold Bk.get at h;rw [List.find?_cons_of_neg (by simpa using e)] at h;exact h
   obtain ⟨v,h3,h4⟩:=N0 h2 h';refine ⟨v,?_,h4⟩;show valV (((Sum.inr k.n:Key),u)::jT (Bk.names r) tK) (Sum.inr n)=some v;unfold valV;rw [List.find?_cons_of_neg (by simp only [decide_eq_true_eq]; exact fun z=>e (Sum.inr.inj z))];exact h3
def pk (b c:Bk):Prop:=∀ n,b.get n=c.get n
theorem xw.l {K:Qn} {H:Hp} (h:xw K H d b) (e:pk b c):vU K H d c:=by
 obtain ⟨us,h1,h2⟩:=h;exact ⟨_,h1,fun n kd hk=>N0 h2 ((e n).trans hk)⟩
theorem zfo {us:List V} {n:Str} (hl:us.length=ns.length) (hn:n ∉ ns):putK (jT ns us) (Sum.inr n) x=jT (ns++[n]) (us++[x]):=by
 unfold jT;rw [Ii fun p hp z=>?_,List.zipWith_append (by omega)]
 ·rfl
 ·induction ns generalizing us with
  | nil=>cases hp
  | cons m r ih =>
   cases us with
   | nil=>cases hp
   | cons u us =>
    rw [List.zipWith_cons_cons] at hp;rcases Qv hp with rfl | hp
    ·exact hn (List.mem_cons.mpr (.inl (Sum.inr.inj z).symm))
    ·exact ih (by simp at hl; omega) (fun h=>hn (bR _ h)) hp
def cu (H:Hp) (p c:Addr):Prop:=∃ (ns:List Int) (a l s:Int),H p=some (.dK (gM c a l s))/\H c=some (.lst (ns.map V.int))/\ns.length<=63/\0<=a/\a<=ns.length/\(0<=l/\l < 10 ^ 320)/\(0<=s/\s < 2 ^ 31)
theorem cu.of {H:Hp} (h:MD H p):∃ c,cu H p c:=h
theorem cu.keep {H H':Hp} {p c:Addr} {ps:List Addr} (h:cu H p c) (e:SB ps H H') (h1:p ∉ ps) (h2:c ∉ ps):cu H' p c:=by
 obtain ⟨ns,a,l,s,a1,a2,a3⟩:=h;exact ⟨ns,a,l,s,e.keep _ _ a1 h1,e.keep _ _ a2 h2,a3⟩
theorem cu.sb {H H':Hp} {c:Addr} (h:cu H p c) (e:SB [] H H'):cu H' p c:=h.keep e aP aP
theorem cu.ne {H:Hp} {c:Addr} (h:cu H p c) (hq:H q=none):p ≠ q:=by
 obtain ⟨ns,a,l,s,a1,a2,a3⟩:=h;exact fun z=>by rw [z,hq] at a1; cases a1
theorem cu.nc {H:Hp} {c:Addr} (h:cu H p c) (hq:H q=none):c ≠ q:=by
 obtain ⟨ns,a,l,s,a1,a2,a3⟩:=h;exact fun z=>by rw [z,hq] at a2; cases a2
theorem cu.some {H:Hp} {c:Addr} (h:cu H p c):∀ q ∈ [p],H q ≠ none:=by
 intro q hq;rw [Qy hq];obtain ⟨ns,a,l,s,a1,a2,a3⟩:=h;exact fun z=>by rw [z] at a1; cases a1
theorem cu.DI {H:Hp} {c:Addr} (h:cu H p c):∃ aS,H p=Option.some (.dK aS):=by
 obtain ⟨ns,a,l,s,a1,a2,a3⟩:=h;exact ⟨_,a1⟩
def Ai:Sp:=fun vs H Q _=>∃ (p cl:Addr) (m:Int),vs=[.ref p,.int m]/\cu H p cl/\1<=m/\m < 2 ^ 2000/\∀ r H',0<=r->r < m->SB [p] H H'->cu H' p cl->Q (.int r) H'
def WL (K:Qn):Sp:=fun vs H Q _=>∃ (p cl:Addr) (m:Nat),vs=[.ref p,.int (m:Int)]/\cu H p cl/\1<=m/\m<=8/\∀ (L:Addr) (ks:List Str) (H':Hp),SB [p] H H'->cu H' p cl->H L=none->H' L=some (.lst (ks.map V.str))->ks.length=m->ks.Nodup->(∀ k ∈ ks,dE k)->Q (.ref L) H'
def BA (K:Qn) (n:Nat):Sp:=fun vs H Q _=>∃ (p nl cl:Addr) (ks:List Str) (m:Nat) (c:Int),vs=[.ref p,.ref nl,.int (m:Int),.int c]/\cu H p cl/\(H nl=some (.lst (ks.map V.str))/\nl ≠ p/\ks.length<=8/\∀ k ∈ ks,dE k)/\m < n/\m<=12/\3<=c/\c<=10 ^ 60 /\
 ∀ (v:V) (g:Gr) (H':Hp),SB [p] H H'->cu H' p cl->GA K H' v g->g.Ok (m*c+1)->g.parts<=m->g.deep<=m->Gr.Named ks g->(1<=m->ks ≠ []->g ≠ .nil)->Q v H'
def zlp (b:Bk):Prop:=∀ (i:Nat) (k:Kd),b[i]?=some k->∀ r ∈ k.rs,∀ x ∈ Ru.within r,x.1.1 ∈ Bk.names (b.take i)
structure Drawn (b:Bk) (m:Nat):Prop where
 ok:b.Ok
 len:b.length<=m
 ahead:zlp b
 few:∀ k ∈ b,∀ r ∈ k.rs,r.1.parts+r.2.parts<=3
def V8 (K:Qn):Sp:=fun vs H Q _=>∃ (p cl:Addr) (m:Nat),vs=[.ref p,.int (m:Int)]/\cu H p cl/\1<=m/\m<=6/\∀ (d:Addr) (b:Bk) (H':Hp),SB [p] H H'->cu H' p cl->H d=none->d ≠ p->xw K H' d b->Drawn b m->Q (.ref d) H'
def Wm (K:Qn):Sp:=fun vs H Q _=>∃ (d:Addr) (b:Bk) (t:Bool),vs=[.ref d,.bl t]/\xw K H d b/\b.length<=100/\∀ (L:Addr) (xs:List V) (H':Hp),SB [] H H'->H L=none->H' L=some (.lst xs)->KdAll K H' [L] xs (if t=true then b.reverse else b)->Q (.ref L) H'
def QE (K:Qn):Sp:=fun vs H Q _=>∃ (v u:V) (l k:Lad),vs=[v,u]/\LA K H v l/\LA K H u k/\l.deep<=30/\k.deep<=30/\l.parts<=4000000/\k.parts<=4000000/\∀ (x:V) (H':Hp),SB [] H H'->LA K H' x (l.gU k)->Q x H'
def PZ (K:Qn):Sp:=fun vs H Q _=>∃ (v u:V) (l k:Lad),vs=[v,u]/\LA K H v l/\LA K H u k/\l.deep<=30/\k.deep<=30/\l.parts<=4000000/\k.parts<=4000000/\∀ (x:V) (H':Hp),SB [] H H'->LA K H' x (Lad.mrg l k)->Q x H'
def WD (K:Qn):Sp:=fun vs H Q _=>∃ (v u:V) (l k:Lad),vs=[v,u]/\LA K H v l/\LA K H u k/\Lad.R l/\Lad.R k/\l.deep<=30/\k.deep<=30/\l.parts<=1000000/\k.parts<=1000000/\∀ (x:V) (H':Hp),SB [] H H'->LA K H' x (l.tu k)->Q x H'
theorem Lad.vi:∀ (l k:Lad) (x:Lad),Lad.S (Lad.mrg l k) x=Lad.S l x+Lad.S k x
 | .nil,k,x=>by rw [Lad.oH]; show Lad.S k x=Lad.aK [] x+Lad.S k x; rw [Lad.bG]; omega
 | .cons e m r,.nil,x=>by rw [Lad.oG]; show _=_+Lad.aK [] x; rw [Lad.bG]; omega
 | .cons e m r,.cons f n s,x=>by
  have hc:∀ (e:Lad) (m:Int) (r:Lad),Lad.S (.cons e m r) x=(if e=x then m else 0)+Lad.S r x:=fun e m r=>Lad.aE e m r.ps x;rw [Lad.rX]
  split
  ·rename_i h;subst h;rw [hc,hc,hc,Lad.vi r s x]
   split <;> omega
  ·split
   ·rw [hc f n (Lad.mrg (.cons e m r) s),Lad.vi (.cons e m r) s x,hc f n s];omega
   ·rw [hc e m (Lad.mrg r (.cons f n s)),Lad.vi r (.cons f n s) x,hc e m r];omega
termination_by l k=>l.len+k.len
decreasing_by all_goals (simp only [Lad.len]; omega)
theorem Lad.qh {l k:Lad} (hl:Lad.R l) (hk:Lad.R k):Lad.mrg l k=l.fw k:=by
 have rb:=hl.fw hk;obtain ⟨B,hB,h1⟩:=hl;obtain ⟨C,hC,h2⟩:=hk;exact Lad.R.ext ⟨B+C,by omega,Lad.Dy h1 h2 hB hC⟩ rb fun x=>by rw [Lad.vi,Lad.fV]
structure LawR (b:Bk) (ρ:Str->Lad) (ns:List Str) (lv:Str->Nat):Prop extends Gr.Goods b ρ ns where
 len:ns.length<=8
 get:∀ n ∈ ns,∃ kd,b.get n=some kd
 few:∀ n ∈ ns,∀ kd,b.get n=some kd->kd.rs.length<=4
 rl:∀ n ∈ ns,∀ kd,b.get n=some kd->∀ r ∈ kd.rs,(Gr.hI b ρ ns r.1/\LFitL (Gr.rk b ρ r.1))/\Gr.hI b ρ ns r.2/\LFitL (Gr.rk b ρ r.2)
 fit:∀ n ∈ ns,LFitL (ρ n)
 down:∀ n ∈ ns,∀ kd,b.get n=some kd->∀ r ∈ kd.rs,∀ x ∈ Ru.within r,lv x.1.1 < lv n
 low:∀ n ∈ ns,lv n < 8
structure Memo (K:Qn) (H:Hp) (e:Addr) (ρ:Str->Lad) (ns ms:List Str):Prop where
 at_:qQ K H e ρ ms
 nd:ms.Nodup
 sub:∀ m ∈ ms,m ∈ ns
theorem Memo.ef {K:Qn} {H H':Hp} {e:Addr} {ρ:Str->Lad} {ns ms:List Str} (h:Memo K H e ρ ns ms) (s:SB [] H H'):Memo K H' e ρ ns ms:=⟨h.at_.ef s,h.nd,h.sub⟩
theorem Memo.len {K:Qn} {H:Hp} {e:Addr} {ms:List Str} (h:Memo K H e ρ ns ms):ms.length<=ns.length:=h.nd.length_le_of_subset h.sub
theorem Memo.DI {K:Qn} {H:Hp} {e:Addr} {ms:List Str} (h:Memo K H e ρ ns ms):∃ aS,H e=some (.dK aS):=by
 obtain ⟨⟨us,h1,_⟩,_,_⟩:=h;exact ⟨_,h1⟩
theorem Memo.put {K:Qn} {H:Hp} {e:Addr} {ρ:Str->Lad} {ns ms:List Str} {n:Str} {x:V} (h:Memo K H e ρ ns ms) (h8:ns.length<=8) (hn:n ∈ ns) (hm:n ∉ ms) (hx:LA K H x (ρ n)):∃ H',DPut H e (.str n) x H'/\SB [e] H H'/\Memo K H' e ρ ns (ms++[n]):=by
 have hl:=h.len;obtain ⟨H',h1,h2,h3⟩:=h.at_.put hm (by omega) hx;refine ⟨H',h1,h2,h3,List.nodup_append.mpr ⟨h.nd,by simp,fun a ha b hb=>?_⟩,fun m Sv=>?_⟩
 ·rw [Qy hb];exact fun z=>hm (z ▸ ha)
 ·rcases Qw Sv with z | z
  ·exact h.sub m z
  ·rw [Qy z]; exact hn
def Bw (K:Qn) (n:Nat):Sp:=fun vs H Q _=>∃ (d e:Addr) (u:V) (b:Bk) (ρ:Str->Lad) (ns ms:List Str) (lv:Str->Nat) (g:Gr) (C:Int) (c:Nat),vs=[.ref d,.ref e,u]/\vU K H d b/\d ≠ e/\LawR b ρ ns lv/\Memo K H e ρ ns ms/\(GA K H u g/\g.Ok C/\Gr.hI b ρ ns g/\g.deep<=16/\g.parts<=900)/\(∀ x ∈ g.within,lv x.1.1 < c)/\20*c+g.deep < n /\
 ∀ (x:V) (H':Hp) (Je:List Str),SB [e] H H'->Memo K H' e ρ ns Je->(∀ m ∈ Je,m ∈ ms\/lv m < c)->LA K H' x (Gr.rk b ρ g)->Q x H'
def NO (K:Qn) (n:Nat):Sp:=fun vs H Q _=>∃ (d e:Addr) (k:Str) (b:Bk) (ρ:Str->Lad) (ns ms:List Str) (lv:Str->Nat),vs=[.ref d,.ref e,.str k]/\vU K H d b/\d ≠ e/\LawR b ρ ns lv/\Memo K H e ρ ns ms/\k ∈ ns/\20*lv k+18 < n /\
 ∀ (x:V) (H':Hp) (Je:List Str),SB [e] H H'->Memo K H' e ρ ns Je->(∀ m ∈ Je,m ∈ ms\/lv m<=lv k)->LA K H' x (ρ k)->Q x H'
theorem zd7 {w:World} {K:Qn} {fd:FuncData} {ps:List Str}:FnOk P w K mg base CX0 k f fd ps (Bw K 0):=tG fun vs H Q E ⟨_,_,_,_,_,_,_,_,_,_,_,_,_,_,_,_,_,_,h,_⟩=>by omega
theorem zcp {w:World} {K:Qn} {fd:FuncData} {ps:List Str}:FnOk P w K mg base CX0 k f fd ps (NO K 0):=tG fun vs H Q E ⟨_,_,_,_,_,_,_,_,_,_,_,_,_,_,h,_⟩=>by omega
def FC (K:Qn) (n:Nat):Sp:=fun vs H Q _=>∃ (d a:Addr) (u:V) (b:Bk) (g:Gr) (pl:Pl) (k:Str) (kd:Kd) (i:Nat) (r:Ru) (m C:Int),vs=[.ref d,u,.ref a,.int (i:Nat),.int m]/\vU K H d b/\(b.Ok/\Gr.Named b.names g)/\(GA K H u g/\g.Ok C/\g.deep<=14/\g.parts<=400)/\SqT K H a (pl.map fun n:Nat=>V.int (n:Int))/\Gr.bareAt g pl=some k/\b.get k=some kd/\(lN::kd.rs)[i]?=some r/\0<=m/\m < 2 ^ 2000/\pl.length < n /\
 ∀ (x:V) (H':Hp),SB [] H H'->GA K H' x (Gr.stk b m (Gr.fM r m) pl g).1->Q x H'
theorem pk.rev (nd:b.names.Nodup):pk b b.reverse:=fun n=>by
 have nr:(Bk.names b.reverse).Nodup:=by
  show (b.reverse.map _).Nodup;rw [List.map_reverse]; exact (List.reverse_perm _).nodup_iff.mpr nd
 cases e:b.get n with
 | some k =>
  obtain ⟨km,kn⟩:=Bk.get_some e;have:=Bk.gQ nr (List.mem_reverse.mpr km);rw [kn] at this;exact this.symm
 | none =>
  cases e2:Bk.get b.reverse n with
  | none=>rfl
  | some k =>
   obtain ⟨km,kn⟩:=Bk.get_some e2;exact absurd (Ku ⟨k,List.mem_reverse.mp km,kn⟩) (Bk.get_none e)
structure Made (c:Bk) (lv:Str->Nat):Prop where
 ok:c.Ok
 ends:∀ n ∈ c.names,EndK c n
 own:OwnR c (cW c)
 R:∀ n ∈ c.names,EndK c n->Lad.R (cW c n)/\cW c n ≠ .nil
 xk:∀ n ∈ c.names,cW c n ≠ .nil/\(cW c n).parts<=242/\(cW c n).deep<=14/\(cW c n).Ok (2 ^ 394)
 OK:LawR c (cW c) c.names lv
namespace Gr
variable {b:Bk} {ρ:Str->Lad} {ns:List Str}
theorem Dh {x:Nat} (hk:∀ n ∈ ns,(ρ n).Ok (2 ^ x)) {g:Gr} (hn:Named ns g) (ho:g.Ok (2 ^ 2100)):(rk b ρ g).Ok (2 ^ (x+2102*g.parts)):=by
 obtain ⟨n1,n2⟩:=jO (b:=b) hk hn ho;exact Lad.dU n1 (by have:=i8 (x+2102*g.parts); omega) (Kw _) n2
theorem yk {P D:Nat} (hk:∀ n ∈ ns,(ρ n).parts<=P/\(ρ n).deep<=D) {g:Gr} (hn:Named ns g):(rk b ρ g).parts<=P*g.parts/\(rk b ρ g).deep<=D+g.deep:=by
 obtain ⟨s1,s2⟩:=dR (b:=b) hk hn;exact ⟨Yb (Lad.cK _) s1,Lad.dG s2⟩
end Gr
theorem LFitL.of {l:Lad} {x:Nat} (hd:l.deep<=30) (hp:l.parts<=900000) (ho:l.Ok (2 ^ x)) (hx:x<=400000):LFitL l:=⟨hd,hp,fun p h=>by
 have:=(Lad.bj.mp ho).1 p h;exact ⟨by omega,Int.lt_of_lt_of_le this.2.2 (jx hx)⟩⟩
theorem LFitW.of {l:Lad} {x:Nat} (hd:l.deep<=29) (hp:l.parts<=900000) (ho:l.Ok (2 ^ x)) (hx:x<=2000):LFitW l:=⟨hd,hp,fun p h=>by
 have:=(Lad.bj.mp ho).1 p h;exact ⟨by omega,Int.lt_of_lt_of_le this.2.2 (jx hx)⟩⟩
theorem Drawn.made {m:Nat} (h:Drawn b m) (hm:m<=5) (hc:c=b\/c=b.reverse):pk b c/\(∀ n,n ∈ c.names ↔ n ∈ b.names)/\∃ lv,Made c lv:=by
 have same:pk b c:=by
  rcases hc with rfl | rfl
  ·exact fun _=>rfl
  ·exact pk.rev h.ok.nd
 have mem:∀ k,k ∈ c ↔ k ∈ b:=fun k=>by
  rcases hc with rfl | rfl
  ·exact Iff.rfl
  ·exact List.mem_reverse
 have xD:∀ n,n ∈ c.names ↔ n ∈ b.names:=fun n=>by
  constructor
  ·intro z;obtain ⟨k,hk,e⟩:=Qx z;exact Ku ⟨k,(mem k).mp hk,e⟩
  ·intro z;obtain ⟨k,hk,e⟩:=Qx z;exact Ku ⟨k,(mem k).mpr hk,e⟩
 have len:c.length=b.length:=by
  rcases hc with rfl | rfl
  ·rfl
  ·exact List.length_reverse ..
 have ok:c.Ok:=by
  refine ⟨by have:=h.ok.pos; omega,by have:=h.ok.len; omega,?_,fun k hk=>?_⟩
  ·rcases hc with rfl | rfl
   ·exact h.ok.nd
   ·show (b.reverse.map _).Nodup;rw [List.map_reverse]; exact (List.reverse_perm _).nodup_iff.mpr h.ok.nd
  ·obtain ⟨a1,a2,a3⟩:=h.ok.kd k ((mem k).mp hk);exact ⟨a1,a2,fun r hr=>⟨(a3 r hr).1,fun p hp=>(xD _).mpr ((a3 r hr).2 p hp)⟩⟩
 let lv:Str->Nat:=fun n=>b.names.idxOf n
 have b5:b.length<=5:=by have:=h.len; omega
 have lvl:∀ n ∈ c.names,lv n < b.length:=fun n hn=>by
  have:=List.idxOf_lt_length_of_mem ((xD n).mp hn);rw [Ye] at this;exact this
 have kat:∀ n ∈ c.names,∀ kd,c.get n=some kd->b[lv n]?=some kd:=fun n hn kd e=>by
  have hn':=(xD n).mp hn;have h1:=List.getElem_idxOf (List.idxOf_lt_length_of_mem hn');have hl:lv n < b.length:=lvl n hn;rw [List.getElem_map] at h1;have h2:b.get n=some kd:=(same n).trans e;have h3:=Bk.gQ h.ok.nd (List.getElem_mem (l:=b) hl);rw [show (b[lv n]).n=n from h1,h2] at h3;rw [Kp hl];exact h3.symm
 have down:∀ n ∈ c.names,∀ kd,c.get n=some kd->∀ r ∈ kd.rs,∀ x ∈ Ru.within r,lv x.1.1 < lv n:=fun n hn kd e r hr x hx=>by
  have h1:=h.ahead (lv n) kd (kat n hn kd e) r hr x hx;rw [Bk.names,List.map_take] at h1;obtain ⟨j,hj,ej⟩:=List.getElem_of_mem h1;rw [Kx] at hj;rw [List.getElem_take] at ej;have h2:lv x.1.1<=j:=by
   rcases Nat.lt_or_ge j (lv x.1.1) with z | z
   ·have:=List.not_of_lt_findIdx (p:=fun y=>y == x.1.1) (xs:=b.names) (i:=j) z;exact absurd (by simpa using ej) (by simpa using this)
   ·exact z
  omega
 have ends:∀ n ∈ c.names,EndK c n:=by
  have main:∀ (j:Nat) (n:Str),n ∈ c.names->lv n < j->EndK c n:=by
   intro j
   induction j with
   | zero=>intro n _ h; omega
   | succ j ih =>
    intro n hn hj;obtain ⟨kd,eg⟩:=Bk.dw hn;obtain ⟨km,kn⟩:=Bk.get_some eg;subst kn;refine .mk fun m hm=>?_;rw [Bz ok km] at hm;obtain ⟨r,hr,hm⟩:=List.mem_flatMap.mp hm;obtain ⟨x,hx,rfl⟩:=Qx hm;have h1:=down _ hn kd eg r hr x hx;exact ih _ (((ok.kd kd km).2.2 r hr).2 x hx) (by omega)
  exact fun n hn=>main _ n hn (Nat.lt_succ_self _)
 have b1:=h.ok.pos;have hb:c.length=1\/c.length=2\/c.length=3\/c.length=4\/c.length=5:=by omega
 have e9:(1000000001:Int)<=2 ^ 30:=by decide
 obtain ⟨o1,o2⟩:=zbu ok (m:=3) (fun k hk he r hr=>⟨(ok.named hk hr).1.1.mono e9,(ok.named hk hr).1.2.1.mono e9,h.few k ((mem k).mp hk) r hr⟩) (by rcases hb with e | e | e | e | e <;> rw [e] <;> decide) (by rcases hb with e | e | e | e | e <;> rw [e] <;> decide) (by rcases hb with e | e | e | e | e <;> rw [e] <;> decide);have R:∀ n ∈ c.names,EndK c n->Lad.R (cW c n)/\cW c n ≠ .nil:=fun n hn he=>zfb ok he hn;have xk:∀ n ∈ c.names,cW c n ≠ .nil/\(cW c n).parts<=242/\(cW c n).deep<=14/\(cW c n).Ok (2 ^ 394):=fun n hn=>by
  have z:=o2 n hn (ends n hn);refine ⟨z.ne,Yb z.parts ?_,Yb z.deep ?_,z.ok.mono (jx ?_)⟩
  ·rcases hb with e | e | e | e | e <;> rw [e] <;> decide
  ·rcases hb with e | e | e | e | e <;> rw [e] <;> decide
  ·rcases hb with e | e | e | e | e <;> rw [e] <;> decide
 have sm:∀ n ∈ c.names,(cW c n).parts<=242/\(cW c n).deep<=14:=fun n hn=>⟨(xk n hn).2.1,(xk n hn).2.2.1⟩;have nu:∀ n ∈ c.names,(cW c n).Ok (2 ^ 394):=fun n hn=>(xk n hn).2.2.2;have ZM:∀ {g:Gr},g.Ok 1000000001->Gr.Named c.names g->g.parts<=4->Gr.hI c (cW c) c.names g/\LFitL (Gr.rk c (cW c) g):=fun {g} ho hn hp=>by
  have hd:=pJ g;have OS:g.Ok (2 ^ 2100):=ho.mono (Int.le_trans e9 (jx (by decide)));have z:=Gr.yk (b:=c) sm hn;exact ⟨Gr.lM (fun n hn=>⟨hn,xk n hn⟩) (by decide) hn OS (by omega) (by omega) (by omega),LFitL.of (by omega) (by omega) (Gr.Dh nu hn OS) (by omega)⟩
 refine ⟨same,xD,lv,ok,ends,o1,R,xk,⟨⟨fun n hn=>R n hn (ends n hn),fun n hn kd e r hr=>?_,fun n hn kd e=>?_⟩,?_,fun n hn=>Bk.dw hn,fun n hn kd e=>?_,fun n hn kd e r hr=>?_,fun n hn=>?_,down,fun n hn=>?_⟩⟩
 ·exact ok.named (Bk.get_some e).1 hr
 ·obtain ⟨km,rfl⟩:=Bk.get_some e;exact Od ok km (ends _ hn)
 ·rw [Ye]; omega
 ·exact (ok.kd kd (Bk.get_some e).1).2.1
 ·obtain ⟨ij,n1,n2⟩:=ok.named (Bk.get_some e).1 hr;have rp:=ij.2.2;exact ⟨ZM ij.1 n1 (by omega),ZM ij.2.1 n2 (by omega)⟩
 ·exact LFitL.of (Yb (xk n hn).2.2.1 (by decide)) (Yb (xk n hn).2.1 (by decide)) (nu n hn) (by decide)
 ·have:=lvl n hn; omega
namespace Gr
theorem rE (h:∀ p ∈ bs,p.1.1 ∈ ns/\Named ns p.1.2):Named ns (tidy bs):=aR.mpr fun p hp=>by
 have hp:p ∈ pS aG bs:=by rw [<- aQ (pS aG bs)]; exact hp
 obtain ⟨q,hq,e⟩:=FN (enc:=aG) _ p hp;rw [<- e];exact h q hq
end Gr
theorem hJ.Rp {K:Qn} {C:Addr} {H H':Hp} {c:Addr} (h:hJ K C H v b) (hp:cu H p c) (s:SB [p] H H'):hJ K C H' v b:=by
 obtain ⟨a,dx,d1,d2,us,rfl,h1,h2,h3,h4⟩:=h;obtain ⟨ns,at_,l,sd,a1,a2,a3⟩:=hp;have n1:a ≠ p:=fun z=>by rw [z,a1] at h1; cases h1
 have n2:d1 ≠ p:=fun z=>by
  rw [z,a1] at h2;have e:gM c at_ l sd=b.lZ:=by injection (Yd h2)
  have e2:=congrArg (fun x=>x[0]?) e;cases b with
  | nil=>cases e2
  | cons k r =>
   have e3:some ((Sum.inr "cells":Key),V.ref c)=some ((Sum.inr k.n:Key),V.bl k.w):=e2
   injection e3 with e3
   injection e3 with e4 e5
   cases e5
 have n3:d2 ≠ p:=fun z=>by
  rw [z,a1] at h3;have e:gM c at_ l sd=b.i5 us:=by injection (Yd h3)
  cases h4 with
  | nil=>cases e
  | cons x1 r1 =>
   cases r1 with
   | nil =>
    have e2:=congrArg (fun x=>x[1]?) e;have e3:some ((Sum.inr Ag:Key),V.int at_)=none:=e2;cases e3
   | cons x2 r2 =>
    have e2:=congrArg (fun x=>x[1]?) e;have e3:some ((Sum.inr Ag:Key),V.int at_)=some (_,_):=e2
    injection e3 with e3
    injection e3 with e4 e5
    rw [<- e5] at x2;cases x2
 exact ⟨a,dx,d1,d2,us,Ja,s.keep _ _ h1 (by simpa using n1),s.keep _ _ h2 (by simpa using n2),s.keep _ _ h3 (by simpa using n3),h4.sb s Kd.eH⟩
def dz (b c:Bk) (ns:List Str):Prop:=∀ n ∈ ns,b.get n=c.get n
theorem dz.wide {b c:Bk} {ns:List Str} (h:dz b c ns) {n:Str} (hn:n ∈ ns):b.wide n=c.wide n:=by
 unfold Bk.wide; rw [h n hn]
theorem dz.far {b c:Bk} {ns:List Str} (h:dz b c ns) {n:Str} (hn:n ∈ ns) (m:Int):b.far n m=c.far n m:=by
 unfold Bk.far; rw [h n hn]
theorem dz.adj {b c:Bk} {ns:List Str} (h:dz b c ns) {n:Str} (hn:n ∈ ns):FT.adj b n=FT.adj c n:=by
 unfold FT.adj; rw [h n hn]
namespace Gr
variable {b c:Bk} {ρ:Str->Lad} {ns:List Str}
theorem iI {k:Str} {g r:Gr} (h:Named ns (.cons k g m r)):k ∈ ns/\Named ns g/\Named ns r :=
 ⟨h ((k,g),m) (bM ..),fun x hx=>h x (bR _ (jA _ hx)),fun x hx=>h x (bR _ (kP _ hx))⟩
theorem mw (h:dz b c ns):∀ {g:Gr},Named ns g->rkT b ρ g=rkT c ρ g
 | .nil,_=>rfl
 | .cons k g m r,hn=>by
  obtain ⟨h1,h2,h3⟩:=iI hn;rw [rkT,rkT,h.wide h1,mw h h2,mw h h3]
theorem i6 (h:dz b c ns) {g:Gr} (hn:Named ns g):rk b ρ g=rk c ρ g:=by unfold rk; rw [mw h hn]
theorem yi (h:dz b c ns) {t:Tr} (h1:t.1 ∈ ns) (hn:Named ns t.2):hQ b ρ t=hQ c ρ t:=by unfold hQ; rw [h.wide h1,i6 h hn]
theorem zh (h:dz b c ns) {r:Ru} (h1:Named ns r.1) (h2:Named ns r.2):gI b ρ r=gI c ρ r:=by unfold gI; rw [i6 h h1,i6 h h2]
theorem qR.on {ms:List Str} (h:dz b c ns) (hs:∀ n ∈ ns,n ∈ b.names->n ∈ c.names):∀ {g:Gr},Named ns g->qR b ρ ms g->qR c ρ ms g
 | .nil,_,_=>trivial
 | .cons k g m r,hn,⟨⟨h1,h2,h3,h4,h5,h6,h7,h8,h9⟩,hg,hr⟩=>by
  obtain ⟨n1,n2,n3⟩:=iI hn;refine ⟨⟨h1,hs _ n1 h2,h3,h4,by rw [<- i6 h n2]; exact h5,by rw [<- yi h (t:=(k,g)) n1 n2]; exact h6,h7,h8,by rw [<- mw h hn]; exact h9⟩,qR.on h hs n2 hg,qR.on h hs n3 hr⟩
theorem eA.on {ms:List Str} (h:dz b c ns) (hs:∀ n ∈ ns,n ∈ b.names->n ∈ c.names):∀ {g:Gr},Named ns g->eA b ρ ms g->eA c ρ ms g
 | .nil,_,_=>trivial
 | .cons k g m r,hn,⟨⟨h1,h2,h3,h4,h5,h6,h7,h8,h9⟩,hg,hr⟩=>by
  obtain ⟨n1,n2,n3⟩:=iI hn;refine ⟨⟨h1,hs _ n1 h2,h3,h4,by rw [<- i6 h n2]; exact h5,by rw [<- yi h (t:=(k,g)) n1 n2]; exact h6,h7,h8,by rw [<- mw h hn]; exact h9⟩,eA.on h hs n2 hg,eA.on h hs n3 hr⟩
theorem x5 {n:Int} {fr:Gr} (h:dz b c ns):∀ {pl:Pl} {g:Gr},Named ns g->stk b n fr pl g=stk c n fr pl g
 | [],g,_=>rfl
 | i::r,g,hn=>by
  rw [stk,stk];cases e:g.ps[i]? with
  | none=>rfl
  | some p =>
   obtain ⟨h1,h2⟩:=aR.mp hn p (Qu e);show (if r=[] then _ else _)=(if r=[] then _ else _);by_cases hr:r=[]
   ·rw [if_pos hr,if_pos hr]
   ·rw [if_neg hr,if_neg hr,x5 h h2,h.far h1]
end Gr
theorem zfe {k:Kd} (hk:k.n ∉ c.names):dz c (c++[k]) c.names:=fun n hn=>by
 obtain ⟨kd,e⟩:=Bk.dw hn;rw [e];unfold Bk.get at e ⊢;rw [List.find?_append,e]; rfl
structure z11 (c:Bk) (k:Kd):Prop where
 new:k.n ∉ c.names
 ok:Bk.Ok (c++[k])
 ring:k.n ∈ mE k.rs
namespace z11
variable {c:Bk} {k:Kd}
theorem names (h:z11 c k):Bk.names (c++[k])=c.names++[k.n]:=by simp [Bk.names]
theorem sub (h:z11 c k):∀ n ∈ c.names,n ∈ Bk.names (c++[k]):=fun n hn=>by rw [h.names]; exact jA _ hn
theorem same (h:z11 c k):dz c (c++[k]) c.names:=zfe h.new
theorem ends (h:z11 c k) (ok:c.Ok) {n:Str} (he:EndK c n):n ∈ c.names->EndK (c++[k]) n:=by
 induction he with
 | mk h2 ih =>
  rename_i n;intro hn;refine .mk fun m hm=>?_;rw [<- h.same.adj hn] at hm;exact ih m hm (CW ok hm)
theorem vK (h:z11 c k):¬ EndK (c++[k]) k.n:=fun he=>by
 have hm:k ∈ c++[k]:=by simp
 have ha:=Bz h.ok hm;exact he.uj (.one (by rw [ha]; exact h.ring))
theorem own (h:z11 c k) (ok:c.Ok) {ρ:Str->Lad} (hE:∀ n ∈ c.names,EndK c n) (ow:OwnR c ρ):OwnR (c++[k]) ρ:=by
 have key:∀ kd ∈ c++[k],EndK (c++[k]) kd.n->kd ∈ c:=fun kd hk he=>by
  rcases Qw hk with e | e
  ·exact e
  ·rw [Qy e] at he; exact absurd he h.vK
 have nm:∀ kd ∈ c,∀ r ∈ kd.rs,Gr.Named c.names r.1/\Gr.Named c.names r.2:=fun kd hk r hr=>(ok.named hk hr).2;have ce:∀ kd ∈ c,EndK c kd.n:=fun kd hk=>hE _ (Ku ⟨kd,hk,rfl⟩);refine ⟨fun kd hk he=>?_,fun kd hk he ns Ab r hr=>?_,fun kd hk he r hr=>?_⟩
 ·have hc:=key kd hk he;rw [ow.own kd hc (ce kd hc)]
  congr 1
  refine List.map_congr_left fun r hr=>?_;obtain ⟨n1,n2⟩:=nm kd hc r hr;exact Gr.zh h.same n1 n2
 ·have hc:=key kd hk he;obtain ⟨n1,n2⟩:=nm kd hc r hr;have hn:kd.n ∈ c.names:=Ku ⟨kd,hc,rfl⟩;obtain ⟨f1,f2,f3,f4,f5,f6⟩:=ow.fit kd hc (ce kd hc) ns (fun n vr=>Ab n (by rw [<- h.same.adj hn]; exact vr)) r hr;refine ⟨f1.on h.same (fun n _ hn=>h.sub n hn) n1,f2.on h.same (fun n _ hn=>h.sub n hn) n2,?_,?_,?_,?_⟩
  ·rw [<- Gr.i6 h.same n1]; exact f3
  ·rw [<- Gr.i6 h.same n2]; exact f4
  ·rw [<- Gr.i6 h.same n1]; exact f5
  ·rw [<- Gr.i6 h.same n2]; exact f6
 ·have hc:=key kd hk he;obtain ⟨n1,n2⟩:=nm kd hc r hr;rw [<- Gr.zh h.same n1 n2];exact ow.deep kd hc (ce kd hc) r hr
end z11
structure LeastOut (P:Str->Prop) (g:Gr) (n:Str):Prop where
 mem:n ∈ g.within.map (·.1.1)
 out:P n
 low:∀ m ∈ g.within.map (·.1.1),P m->¬ m.cps.toList < n.cps.toList
def Xm (K:Qn) (C N:Addr):Sp:=fun vs H Q E=>∃ (v w:V) (b:Bk) (g:Gr) (ns:List Str),vs=[v,w]/\hJ K C H v b/\GA K H w g/\b.length<=60/\g.deep<=68/\g.parts<=3000/\Gr.Named ns g/\ns.length<=60/\(Gr.Named b.names g->∀ H',SB [] H H'->Q .non H') /\
 ∀ n,LeastOut (fun m=>m ∉ b.names) g n->∀ (d:Addr) (H':Hp),SB [] H H'->H d=none->H' d=some (.xd [("kind",.str n)])->E (.ref N) (some d) H'
def VQ (K:Qn) (C N EE:Addr):Sp:=fun vs H Q E=>∃ (v w:V) (b:Bk) (g:Gr),vs=[v,w]/\hJ K C H v b/\b.Ok/\GA K H w g/\g.deep<=68/\g.parts<=3000/\Gr.Named b.names g/\((∀ x ∈ g.within,EndK b x.1.1)->∀ H',SB [] H H'->Q .non H') /\
 ∀ n,LeastOut (fun m=>¬ EndK b m) g n->∀ (d:Addr) (H':Hp),SB [] H H'->H d=none->H' d=some (.xd [("kind",.str n)])->E (.ref EE) (some d) H'
theorem XG {ss:List Str} (h:sortedS ss=true):∀ (i:Nat),sortedS (ss.drop i)=true
 | 0=>h
 | i+1=>by
  have ih:=XG h i;cases e:ss.drop i with
  | nil=>rw [List.drop_eq_nil_iff] at e; rw [List.drop_eq_nil_iff.mpr (by omega)]; rfl
  | cons x r =>
   rw [e] at ih;have:ss.drop (i+1)=r:=by rw [<- List.drop_drop,e]; rfl
   rw [this]; exact z94 ih
theorem LeastOut.at {P:Str->Prop} {g:Gr} {ss:List Str} (so:SrtOf ss (g.within.map (·.1.1))) {i:Nat} {n:Str} (en:ss[i]?=some n) (hp:P n) (hb:∀ m ∈ ss.take i,¬ P m):LeastOut P g n:=⟨(so.mem n).mp (Qu en),hp,fun m hm hP=>by
 have hm:=(so.mem m).mpr hm;rw [<- List.take_append_drop i ss] at hm;rcases Qw hm with z | z
 ·exact absurd hP (hb m z)
 ·obtain ⟨hi,e⟩:=Kq en;have hd:=XG so.srt i;rw [List.drop_eq_getElem_cons hi,e] at z hd;rcases Qv z with z | z
  ·rw [z]; exact List.lt_irrefl _
  ·exact Xx hd m z⟩
theorem V3:∀ {L:List Str},L.Nodup->∀ x,L.count x<=1
 | [],_,_=>by simp
 | y::r,h,x=>by
  obtain ⟨h1,h2⟩:=List.nodup_cons.mp h;rw [List.count_cons]
  split
  ·rename_i e;have e:y=x:=by simpa using e
   rw [List.count_eq_zero.mpr (e ▸ h1)]; omega
  ·have:=V3 h2 x; omega
theorem PX:∀ (ns:List Str) {L:List Str},L.Nodup->L.length<=(L.filter fun n=>decide (n ∉ ns)).length+ns.length
 | [],L,_=>by
  have:(L.filter fun n=>decide (n ∉ ([]:List Str)))=L:=List.filter_eq_self.mpr fun n _=>by simp
  rw [this]; omega
 | x::r,L,nd=>by
  have ih:=PX r (L:=L.filter fun n=>decide (n ≠ x)) (nd.filter _);rw [List.filter_filter] at ih;have e:(L.filter fun n=>decide (n ∉ r)&&decide (n ≠ x))=L.filter fun n=>decide (n ∉ x::r):=List.filter_congr fun n _=>by
   by_cases h1:n ∈ r <;> by_cases h2:n=x <;> simp [h1,h2]
  rw [e] at ih;have h1:L.length<=(L.filter fun n=>decide (n ≠ x)).length+1:=by
   have h2:=List.length_eq_countP_add_countP (fun n=>decide (n ≠ x)) (l:=L);have h3:L.countP (fun n=>decide ¬decide (n ≠ x)=true)<=1:=by
    rw [show L.countP (fun n=>decide ¬decide (n ≠ x)=true)=L.count x from List.countP_congr fun n _=>by simp];exact V3 nd x
   rw [List.countP_eq_length_filter] at h2;omega
  rw [Yk];omega
theorem xw.has {K:Qn} {H:Hp} (h:xw K H d b) (n:Str):∃ o,DGet H d (.str n) o/\o.isSome=decide (n ∈ b.names):=by
 obtain ⟨us,h1,h2⟩:=h;by_cases hn:n ∈ b.names
 ·obtain ⟨kd,e⟩:=Bk.dw hn;obtain ⟨v,h3,_⟩:=N0 h2 e;exact ⟨some v,iN h1 h3,by rw [Ya hn]; rfl⟩
 ·refine ⟨none,.inl ⟨_,Sum.inr n,.inl h1,Ja,?_⟩,by rw [Qz hn]; rfl⟩;have ul:=h2.length;have:List.find? (fun kv:Key × V=>decide (kv.1=Sum.inr n)) (jT b.names us)=Option.none:=by
   refine List.find?_eq_none.mpr fun x hx=>?_;have hk:x.1 ∈ (zk b.names us).map (·.1):=Ku ⟨x,hx,rfl⟩;rw [PY (by rw [ul]; exact (List.length_map ..).symm)] at hk;obtain ⟨m,hm,e⟩:=Qx hk;rw [<- e];simp only [decide_eq_true_eq];exact fun z=>hn (by rw [<- Sum.inr.inj z]; exact hm)
  unfold valV;rw [this]; rfl
theorem Ve {N L:List Str} (e:L[i]?=some z):(L.take (i+1)).filter (fun n=>decide (n ∉ N))=(L.take i).filter (fun n=>decide (n ∉ N))++if z ∉ N then [z] else []:=by
 rw [Yg,e,List.filter_append]
 congr 1
 by_cases h:z ∈ N <;> simp [h]
namespace Gr
theorem oy {t:Tr}:∀ {L:List (Tr × Int)},(∀ q ∈ L,q.1 ≠ t)->sumE L t=0
 | [],_=>rfl
 | q::r,h=>by
  rw [oq,if_neg (h q (bM ..)),oy fun x hx=>h x (bR _ hx)]; rfl
theorem rH {t:Tr}:∀ {L:List (Tr × Int)},(∀ q ∈ L,1<=q.2)->∀ p ∈ L,p.1=t->1<=sumE L t
 | [],_,_,h,_=>nomatch h
 | q::r,hL,p,hp,e=>by
  have nn:=iE (bs:=r) t fun x hx=>by have:=hL x (bR _ hx); omega
  rw [oq];rcases Qv hp with z | z
  ·rw [<- z,if_pos e]; have:=hL q (bM ..); rw [<- z] at this; omega
  ·have:=rH (fun x hx=>hL x (bR _ hx)) p z e
   split <;> (have:=hL q (bM ..); omega)
theorem rF (pos:∀ q ∈ bs,1<=q.2) {p:Tr × Int} (hp:p ∈ bs):∃ m,(p.1,m) ∈ (tidy bs).ps:=by
 refine Classical.byContradiction fun z=>?_;have e:(tidy bs).ps=pS aG bs:=aQ (pS aG bs);have h1:=FA (enc:=aG) bs p.1;rw [oy (L:=pS aG bs) fun q hq hz=>z ⟨q.2,by rw [e,<- hz]; exact hq⟩] at h1;have h2:=rH pos p hp rfl;omega
theorem wD (pos:∀ q ∈ bs,1<=q.2) {p:Tr × Int} (hp:p ∈ bs):p.1.1 ∈ (tidy bs).within.map (·.1.1)/\∀ x ∈ p.1.2.within,x.1.1 ∈ (tidy bs).within.map (·.1.1):=by
 obtain ⟨m,hm⟩:=rF pos hp;have hw:∀ x ∈ (p.1,m)::p.1.2.within,x ∈ (tidy bs).within:=fun x hx=>by
  rw [d7]; exact List.mem_flatMap.mpr ⟨(p.1,m),hm,hx⟩
 exact ⟨Ku ⟨(p.1,m),hw _ (bM ..),Ja⟩,fun x hx=>Ku ⟨x,hw x (bR _ hx),Ja⟩⟩
end Gr
structure In55 (ns:List Str) (rg:Str) (g:Gr):Prop where
 named:Gr.Named (ns++[rg]) g
 has:rg ∈ g.within.map (·.1.1)
 ok:g.Ok 1000000001
 parts:g.parts<=2
 deep:g.deep<=2
theorem In55.one {rg:Str} (h:dE rg):In55 ns rg (.cons rg .nil 1 .nil):=⟨fun x hx=>by
  have hx:x ∈ [((rg,Gr.nil),(1:Int))]:=hx;rw [Qy hx]; exact kP _ (Kv rfl),Ku ⟨((rg,.nil),1),bM ..,Ja⟩,⟨h,trivial,by decide,by decide,trivial,by simp [Gr.ps]⟩,Nat.le_of_ble_eq_true rfl,Nat.le_of_ble_eq_true rfl⟩
theorem In55.Dk (ok:c.Ok) (hl:c.length<=7) {ns:List Str} (Ab:∀ n ∈ ns,n ∈ c.names) {rg:Str} (ho:dE rg) (hn:rg ∉ c.names) {gi:Gr} (I:In55 ns rg gi) {ru:Ru} (hr:ru=(gi,.nil)\/ru=(.nil,gi)):z11 c ⟨rg,false,[ru]⟩:=by
 have hw:∀ x,x ∈ Ru.within ru ↔ x ∈ gi.within:=fun x=>by
  rcases hr with rfl | rfl
  ·show x ∈ gi.within++Gr.nil.within ↔ _;simp [Gr.within]
  ·show x ∈ Gr.nil.within++gi.within ↔ _;simp [Gr.within]
 have nm:∀ x ∈ Ru.within ru,x.1.1 ∈ c.names++[rg]:=fun x hx=>by
  rcases Qw (I.named x ((hw x).mp hx)) with e | e
  ·exact jA _ (Ab _ e)
  ·exact kP _ e
 have ij:dV ru:=by
  have h1:=I.ok;have h2:=I.parts;rcases hr with rfl | rfl
  ·exact ⟨h1,trivial,by show gi.parts+0<=4; omega⟩
  ·exact ⟨trivial,h1,by show 0+gi.parts<=4; omega⟩
 have en:Bk.names (c++[⟨rg,false,[ru]⟩])=c.names++[rg]:=by simp [Bk.names]
 refine ⟨hn,⟨by simp,by rw [Yf]; show c.length+1<=8; omega,?_,fun k hk=>?_⟩,?_⟩
 ·rw [en];exact List.nodup_append.mpr ⟨ok.nd,by simp,fun a ha b hb=>by rw [Qy hb]; exact fun z=>hn (z ▸ ha)⟩
 ·rw [en];rcases Qw hk with e | e
  ·obtain ⟨a1,a2,a3⟩:=ok.kd k e;exact ⟨a1,a2,fun r hr=>⟨(a3 r hr).1,fun p hp=>jA _ ((a3 r hr).2 p hp)⟩⟩
  ·rw [Qy e];refine ⟨ho,by show 1<=4; decide,fun r Ga=>?_⟩;rw [Qy Ga];exact ⟨ij,nm⟩
 ·obtain ⟨x,hx,e⟩:=Qx I.has;have:=zV (rs:=[ru]) (Kv rfl) ((hw x).mpr hx);rw [e] at this;exact this
def whD:PyData->Option Int
 | .int i=>some i
 | _=>none
theorem U0 {K:Qn} {H:Hp} {d:PyData} (h:Dp K H v d):Wh K H v (whD d):=by
 cases h with
 | int i=>exact .inl ⟨i,Ja,Ja⟩
 | non=>exact .inr ⟨rfl,"NoneType",false,false,.base .non,by decide +kernel,(fun z=>nomatch z),rfl⟩
 | bl b=>exact .inr ⟨rfl,"bool",true,true,.base (.bl b),by decide +kernel,fun _=>by decide +kernel,rfl⟩
 | str x=>exact .inr ⟨rfl,"str",false,false,.base (.str x),by decide +kernel,(fun z=>nomatch z),rfl⟩
 | tup hs _=>exact .inr ⟨rfl,"tuple",false,false,xy hs,by decide +kernel,(fun z=>nomatch z),rfl⟩
 | lst hs _=>exact .inr ⟨rfl,"list",false,false,Vv hs,by decide +kernel,(fun z=>nomatch z),rfl⟩
inductive Ro where
 | kind (n:Str)
 | place
 | rule
 | said
 | rise
 | done
def UA (o:Option Int):Prop:=∃ n:Nat,o=some (n:Int)
def Xw (K:Qn):Sp:=fun vs H Q _=>∃ (v:V) (pa:Addr) (g:Gr) (pl:Pl) (k:Str),vs=[v,.ref pa]/\GA K H v g/\SqT K H pa (pl.map fun n:Nat=>V.int (n:Int))/\Gr.bareAt g pl=some k/\Q (.str k) H
instance strOrd:Orderly PyData.str where
 al a b:=by simp [alike]
 eq a b:=by simp [PyData.eqv,Gr.sb]
theorem zfv {a b:Str} (h1:¬ a.cps.toList < b.cps.toList) (h2:¬ b.cps.toList < a.cps.toList):a=b:=by
 have e1:dataLt (.str a) (.str b)=false:=by rw [dataLt_str]; exact Qz h1
 have e2:dataLt (.str b) (.str a)=false:=by rw [dataLt_str]; exact Qz h2
 exact Classical.byContradiction fun z=>by
  have:=HW (enc:=PyData.str) z e1;rw [e2] at this; cases this
theorem LeastOut.one {P:Str->Prop} {g:Gr} {n m:Str} (h1:LeastOut P g n) (h2:LeastOut P g m):n=m:=zfv (h2.low n h1.mem h1.out) (h1.low m h2.mem h2.out)
theorem LeastOut.not {g:Gr} {n:Str} (h:LeastOut (fun m=>m ∉ b.names) g n) (hn:Gr.Named b.names g):False:=by
 obtain ⟨x,hx,e⟩:=Qx h.mem;exact h.out (e ▸ hn x hx)
section
variable {K:Qn} {H H':Hp}
mutual
theorem tE (e:SB [] H H'):∀ (d:PyData) (v:V),Dp K H v d->Dp K H' v d
 | .none,_,h=>by cases h; exact .non
 | .bool b,_,h=>by cases h; exact .bl b
 | .int i,_,h=>by cases h; exact .int i
 | .str x,_,h=>by cases h; exact .str x
 | .list ds,_,h=>by
  cases h with
  | lst hs ha=>exact .lst (e.fO aP hs) (Ih e ds _ ha)
 | .dict ds,_,h=>by cases h
 | .tuple ds,_,h=>by
  cases h with
  | tup hs ha=>exact .tup (e.aL hs) (Ih e ds _ ha)
theorem Ih (e:SB [] H H'):∀ (ds:List PyData) (vs:List V),DpAll K H vs ds->DpAll K H' vs ds
 | [],_,h=>by cases h; exact .nil
 | d::ds,_,h=>by
  cases h with
  | cons h1 h2=>exact .cons (tE e d _ h1) (Ih e ds _ h2)
end
end
def zce (K:Qn) (C NK:Addr) (v w:V) (H:Hp) (E:XK) (inner:Prop):Prop:=∃ (b:Bk) (g:Gr) (ns:List Str),hJ K C H v b/\b.length<=60/\GA K H w g/\g.deep<=68/\g.parts<=3000/\Gr.Named ns g/\ns.length<=60 /\
 (∀ n,LeastOut (fun m=>m ∉ b.names) g n->∀ (d:Addr) (H':Hp),SB [] H H'->H d=none->H' d=some (.xd [("kind",.str n)])->E (.ref NK) (some d) H')/\(Gr.Named b.names g->inner)
def Xb (K:Qn) (C NK NP NR NN TG:Addr):Sp:=fun vs H Q E=>∃ v w r1 r2 r3:V,vs=[v,w,r1,r2,r3]/\zce K C NK v w H E (zds K C NP NR NN TG [v,w,r1,r2,r3] H Q E)
inductive Due34 (b:Bk) (g:Gr) (os:List (Option Int)) (ro so:Option Int):Ro->Prop
 | kindG {n:Str}:LeastOut (fun m=>m ∉ b.names) g n->Due34 b g os ro so (.kind n)
 | place:Gr.Named b.names g->(∀ pl k,os=ik pl->Gr.bareAt g pl ≠ some k)->Due34 b g os ro so .place
 | rule {pl:Pl} {k:Str} {kd:Kd}:Gr.Named b.names g->os=ik pl->Gr.bareAt g pl=some k->b.get k=some kd->(∀ i:Nat,ro=some (i:Int)->(lN::kd.rs)[i]?=none)->Due34 b g os ro so .rule
 | said {pl:Pl} {k:Str} {kd:Kd} {i:Nat} {r:Ru}:Gr.Named b.names g->os=ik pl->Gr.bareAt g pl=some k->b.get k=some kd->ro=some (i:Int)->(lN::kd.rs)[i]?=some r->¬ UA so->Due34 b g os ro so .said
 | done {pl:Pl} {k:Str} {kd:Kd} {i:Nat} {r:Ru} {n:Nat}:Gr.Named b.names g->os=ik pl->Gr.bareAt g pl=some k->b.get k=some kd->ro=some (i:Int)->(lN::kd.rs)[i]?=some r->so=some (n:Int)->Due34 b g os ro so .done
theorem Due34.uniq {g:Gr} {os:List (Option Int)} {ro so:Option Int} {o o':Ro} (h:Due34 b g os ro so o) (h':Due34 b g os ro so o'):o=o':=by
 have pls:∀ {p q:Pl},os=ik p->os=ik q->p=q:=fun a b=>Pz (a.symm.trans b);have same:∀ {p q:Pl} {k k':Str} {kd F5:Kd},os=ik p->os=ik q->Gr.bareAt g p=some k->Gr.bareAt g q=some k'->b.get k=some kd->b.get k'=some F5->kd=F5:=fun e1 e2 h1 h2 g1 g2=>by
  obtain rfl:=pls e1 e2;rw [h1] at h2;cases h2;rw [g1] at g2;exact Yd g2
 cases h with
 | kindG l =>
  cases h' with
  | kindG l'=>rw [l.one l']
  | place n _=>exact (l.not n).elim
  | rule n _ _ _ _=>exact (l.not n).elim
  | said n _ _ _ _ _ _=>exact (l.not n).elim
  | done n _ _ _ _ _ _=>exact (l.not n).elim
 | place n hp =>
  cases h' with
  | kindG l=>exact (l.not n).elim
  | place _ _=>rfl
  | rule _ e1 e2 _ _=>exact (hp _ _ e1 e2).elim
  | said _ e1 e2 _ _ _ _=>exact (hp _ _ e1 e2).elim
  | done _ e1 e2 _ _ _ _=>exact (hp _ _ e1 e2).elim
 | rule n e1 e2 e hr =>
  cases h' with
  | kindG l=>exact (l.not n).elim
  | place _ hp=>exact (hp _ _ e1 e2).elim
  | rule _ _ _ _ _=>rfl
  | said _ e1' e2' e' e3 e4 _=>rw [same e1 e1' e2 e2' e e'] at hr; rw [hr _ e3] at e4; cases e4
  | done _ e1' e2' e' e3 e4 _=>rw [same e1 e1' e2 e2' e e'] at hr; rw [hr _ e3] at e4; cases e4
 | said n e1 e2 e e3 e4 hs =>
  cases h' with
  | kindG l=>exact (l.not n).elim
  | place _ hp=>exact (hp _ _ e1 e2).elim
  | rule _ e1' e2' e' hr=>rw [<- same e1 e1' e2 e2' e e'] at hr; rw [hr _ e3] at e4; cases e4
  | said _ _ _ _ _ _ _=>rfl
  | done _ _ _ _ _ _ e5=>exact (hs ⟨_,e5⟩).elim
 | done n e1 e2 e e3 e4 e5 =>
  cases h' with
  | kindG l=>exact (l.not n).elim
  | place _ hp=>exact (hp _ _ e1 e2).elim
  | rule _ e1' e2' e' hr=>rw [<- same e1 e1' e2 e2' e e'] at hr; rw [hr _ e3] at e4; cases e4
  | said _ _ _ _ _ _ hs=>exact (hs ⟨_,e5⟩).elim
  | done _ _ _ _ _ _ _=>rfl
end FT
namespace L2
open FT PySem PySem.Spec PyProof.Rows
def goneD (i:Nat) (D:Ends):Ends:={ nx:=fun σ' H'=>D.nx (σ'.set i none) H',rt:=D.rt,bk:=fun σ' H'=>D.bk (σ'.set i none) H',ct:=fun σ' H'=>D.ct (σ'.set i none) H' }
def wManyN (K:Qn) (Wout:WX) (D:Ends):List (Value × Option Nat × (Addr->Value->Option Addr->TS))->WX
 | []=>Wout
 | (c,none,ts)::r=>fun cls d σ H=>∃ b,PySem.W.exmOne K cls c=some b/\(b=true->∀ a,H a=none->ts a cls d D σ H)/\(b=false->wManyN K Wout D r cls d σ H)
 | (c,some i,ts)::r=>fun cls d σ H=>∃ b,PySem.W.exmOne K cls c=some b/\(b=true->∀ a,H a=none->ts a cls d (goneD i D) (σ.set i (some (.ref a))) H)/\(b=false->wManyN K Wout D r cls d σ H)
inductive HdsN (X:Cx):List ExceptHandler->List (Value × Option Nat × (Addr->Value->Option Addr->TS))->Prop
 | nil:HdsN X [] []
 | plain {x:Str} {c:Value} {ts:Addr->Value->Option Addr->TS} {b₀:Stmt} {suite:List Stmt} {np pos':Pos} {vz:List ExceptHandler} {l:List (Value × Option Nat × (Addr->Value->Option Addr->TS))} (hc:Names X x c)
   (Jw:∀ (a:Addr) (oe:Obj) (cls:Value) (d:Option Addr) (pn:List (Addr × Obj)),Zc cls d oe->(∃ vs,oe.data=.fields vs)->PSs (X.suite a ((a,oe)::pn)) (b₀::suite) (ts a cls d)) (r:HdsN X vz l) :
   HdsN X (.ExceptHandler (some (.Name x np)) none (b₀::suite) pos'::vz) ((c,none,ts)::l)
 | named {x n:Str} {c:Value} {i:Nat} {ts:Addr->Value->Option Addr->TS} {b₀:Stmt} {suite:List Stmt} {np pos':Pos} {vz:List ExceptHandler} {l:List (Value × Option Nat × (Addr->Value->Option Addr->TS))} (hi:X.N[i]?=some n) (OU:X.env.kindOf n=some .local) (hc:Names X x c)
   (Jw:∀ (a:Addr) (oe:Obj) (cls:Value) (d:Option Addr) (pn:List (Addr × Obj)),Zc cls d oe->(∃ vs,oe.data=.fields vs)->PSs (X.suite a ((a,oe)::pn)) (b₀::suite) (ts a cls d)) (r:HdsN X vz l) :
   HdsN X (.ExceptHandler (some (.Name x np)) (some n) (b₀::suite) pos'::vz) ((c,some i,ts)::l)
section
variable {X:Cx} {body:List Stmt} {h₀:ExceptHandler} {vz:List ExceptHandler} {l:List (Value × Option Nat × (Addr->Value->Option Addr->TS))} {pos:Pos} {tb:WX->TS} {Wout:WX}
theorem ps_try_manyN (hs:X.stack=X.env::X.outer) (hf:X.env.frame=some X.env.locals) (hN:X.N.Nodup) (tk:Takes X Wout)
  (hb:∀ (W:WX) (pn:List (Addr × Obj)) (xe:Value->Shared->Prop),Takes (X.tr pn xe) W->PassesOwn (model X.prog X.w) X.A X.env xe->PSs (X.tr pn xe) body (tb W))
  (hh:HdsN X (h₀::vz) l):PS X (.Try body (h₀::vz) [] [] pos) (fun D σ H=>tb (wManyN X.K Wout D l) D σ H):=by
 refine ⟨fun pins s σ H D I h=>?_⟩;have ok:=I.ok;have vy:X.A.frames=some (X.env::X.outer):=by rw [ok.frames,hs]
 refine wpAny_Try_except ?_;refine wpAny_mono ((hb (wManyN X.K Wout D l) (X.pn++pins) (fun e s₁=>wpAny (model X.prog X.w) X.A (noteFrame e X.env) (fun _ s₂=>wpAny (model X.prog X.w) X.A (setFlight e none) (fun _ s₃ =>
  wpAny (model X.prog X.w) X.A (handleBy e X.env (h₀::vz)) (SP X pins D) X.xe s₃) X.xe s₂) X.xe s₁) (fun u s' xx=>?_) PassesOwn.looking).run [] s σ H D (I.toTry _) h) (fun f s1 qx=>?_) (fun e s1 he=>he)
 ·-- the catch
  obtain ⟨a,B,sI,Yv,σ',H',cls,d,rfl,J',nb,up,sky,na,os,ag,w⟩:=xx;have J:Inv X pins σ' H' sI:=J'.ofTry ok;have QU:Sky B (X.env::X.outer) a (Zc cls d) X.env.locals s'.heap:=by rw [<- hs]; exact sky
  show wpAny (model X.prog X.w) X.A (noteFrame (.ref a) X.env) _ _ _;refine Sky.land Zc.steady vy hf QU fun h3 Ey Ov=>?_;have J3:Inv X pins σ' H' { s' with heap:=h3 }:=J.landed nb Ey.1 (up.trans Ov) os ag;obtain ⟨OF,vs3,yN,qU,Kg⟩:=Ey.there;have I0:∀ {h:Heap} {o:Obj} {vs:Array Value},h.FunFrames B (X.env::X.outer)->h.get? a=some o->o.data=.fields vs->a ∉ frs (X.env::X.outer):=fun {h o vs} ff e dd hm=>by
   obtain ⟨_,o',e',hnf⟩:=ff.mem hm;rw [e] at e'; cases e';exact hnf _ dd
  have YF:=I0 Ey.2.2.1 yN Kg;have nL:a ≠ X.env.locals:=fun z=>YF (List.mem_filterMap.mpr ⟨X.env,FT.bM,by rw [hf,z]⟩);have nF:a ∉ X.fs:=fun hm=>by
   obtain ⟨e,he,q⟩:=List.mem_filterMap.mp hm;exact YF (List.mem_filterMap.mpr ⟨e,FT.bR _ he,q⟩)
  have S3:=J3.suite yN Kg na nL nF;have go:∀ {Ek:List ExceptHandler} {l':List (Value × Option Nat × (Addr->Value->Option Addr->TS))},HdsN X Ek l'->wManyN X.K Wout D l' cls d σ' H' ->
    wpAny (model X.prog X.w) X.A (handleBy (.ref a) X.env Ek) (SP X pins D) X.xe { s' with heap:=h3 }:=by
   intro Ek l' hk
   induction hk with
   | nil =>
    intro w;refine wpAny_handleBy_nil ?_;obtain ⟨k1,k2,k3,oe,vs,T,oT,ts',he,hz,hd,h1,hr⟩:=id Ey;unfold PySem.passOn;refine Ke (wpAny_field he hd h1 ?_);rw [if_neg (show ¬ ((Value.ref T == Value.none)=true) from by simp)];have fin:wpAny (model X.prog X.w) X.A (setFlight (.ref a) X.env.frame) (fun _ s4=>wpAny (model X.prog X.w) X.A (throw (.ref a):Sem Flow) (SP X pins D) X.xe s4) X.xe { s' with heap:=h3 }:=by
     rw [hf];refine HandSPX.setFlight_upZ Ey fun h4 hh4 IA=>wpAny_throw (tk _ _ ?_);exact ⟨a,B,sI,pins,σ',H',cls,d,Ja,J,nb,(up.trans Ov).trans IA,.inr (.inr (by rw [hs]; exact hh4)),na,os,ag,w⟩
    first
     | exact Ke (wpAny_pure (Ke fin))
     | exact Ke fin
   | @plain x c ts b₀ suite np pos' hds2 l2 hc Jw r ih =>
    intro w;obtain ⟨b,yU,DK,wY⟩:=w;refine wpAny_handleBy_cons (codeAny_handlers_test ?_) (by intro q; cases q);have LT:PySem.W.Looks (model X.prog X.w) h3 (typeOf (.ref a)) cls:=fun A Q E s k q=>wpAny_typeOf_ref (k _ _ yN) (by rw [qU.1]; exact q);have LM:=PySem.W.exm_one (M:=model X.prog X.w) (J3.kIn) LT yU;have test:∀ {Q:Value->Shared->Prop} {E:Value->Shared->Prop},Q c { s' with heap:=h3 }->wpAny (model X.prog X.w) (X.A.mark (some (.ref a))) (eval (.Name x np) X.env) Q E { s' with heap:=h3 }:=fun {Q E} q=>by
     obtain ⟨hg,yR,hm | ⟨hm,hv,qW⟩⟩:=hc
     ·exact ld_glob (X:=X.suite a ((a,OF)::(X.pn++pins))) S3 hg hm q yR
     ·exact ld_blt (X:=X.suite a ((a,OF)::(X.pn++pins))) S3 hg hm hv q qW yR
    refine test (LM.here ?_);cases b with
    | true =>
     refine codeAny_handlers_suite ?_;refine HandSPX.lands_againZ Ey fun h4 Md IA=>?_;have J4:Inv X pins σ' H' { s' with heap:=h4 }:=J.landed nb Md.1 ((up.trans Ov).trans IA) os ag;obtain ⟨IY,vs4,SW,AR,Kc⟩:=Md.there;have S4:=J4.suite SW Kc na nL nF;refine wpAny_mono ((Jw a IY cls d (X.pn++pins) AR ⟨_,Kc⟩).run [] _ _ H' _ S4 (DK rfl a na)) (fun f s6 qx=>?_) (fun _ _ z=>False.elim z);cases f with
     | next =>
      obtain ⟨σ6,H6,S6,q6⟩:=qx;exact ⟨_,_,S6.unsuite ok,q6⟩
     | brk =>
      obtain ⟨σ6,H6,S6,q6⟩:=qx;exact ⟨_,_,S6.unsuite ok,q6⟩
     | cont =>
      obtain ⟨σ6,H6,S6,q6⟩:=qx;exact ⟨_,_,S6.unsuite ok,q6⟩
     | ret u =>
      obtain ⟨v6,σ6,H6,S6,r6,q6⟩:=qx;exact ⟨_,_,_,S6.unsuite ok,r6,q6⟩
    | false =>
     show wpAny _ X.A (handleBy (.ref a) X.env hds2) _ _ _;exact ih (wY rfl)
   | @named x n c i ts b₀ suite np pos' hds2 l2 hi OU hc Jw r ih =>
    intro w;obtain ⟨b,yU,DK,wY⟩:=w;refine wpAny_handleBy_cons (codeAny_handlers_test ?_) (by intro q; cases q);have LT:PySem.W.Looks (model X.prog X.w) h3 (typeOf (.ref a)) cls:=fun A Q E s k q=>wpAny_typeOf_ref (k _ _ yN) (by rw [qU.1]; exact q);have LM:=PySem.W.exm_one (M:=model X.prog X.w) (J3.kIn) LT yU;have test:∀ {Q:Value->Shared->Prop} {E:Value->Shared->Prop},Q c { s' with heap:=h3 }->wpAny (model X.prog X.w) (X.A.mark (some (.ref a))) (eval (.Name x np) X.env) Q E { s' with heap:=h3 }:=fun {Q E} q=>by
     obtain ⟨hg,yR,hm | ⟨hm,hv,qW⟩⟩:=hc
     ·exact ld_glob (X:=X.suite a ((a,OF)::(X.pn++pins))) S3 hg hm q yR
     ·exact ld_blt (X:=X.suite a ((a,OF)::(X.pn++pins))) S3 hg hm hv q qW yR
    refine test (LM.here ?_);cases b with
    | true =>
     have Sw:Loc X.env.scope n:=.inl OU;refine codeAny_handlers_suite_as ?_;refine HandSPX.lands_againZ Ey fun h4 Md IA=>?_;have J4:Inv X pins σ' H' { s' with heap:=h4 }:=J.landed nb Md.1 ((up.trans Ov).trans IA) os ag;obtain ⟨IY,vs4,SW,AR,Kc⟩:=Md.there;have S4:=J4.suite SW Kc na nL nF;refine store_ok (X:=X.suite a ((a,IY)::(X.pn++pins))) (v:=.ref a) S4 hN hi Sw rfl (fun s5 S5=>?_) (.inr OU);refine wpAny_mono ((Jw a IY cls d (X.pn++pins) AR ⟨_,Kc⟩).run [] s5 _ H' _ S5 (DK rfl a na)) (fun f s6 qx=>?_) (fun _ _ z=>False.elim z);have end_:∀ {σ6:St} {H6:Hp} {Q:Shared->Prop},Inv (X.suite a ((a,IY)::(X.pn++pins))) [] σ6 H6 s6->(∀ s7,Inv X pins (σ6.set i none) H6 s7->Q s7) ->
       wpAny (model X.prog X.w) X.A (do bindName X.env n .none; unbindBehindTheSuite X.env n pos') (fun _ s7=>Q s7) X.xe s6:=fun {σ6 H6 Q} S6 hq=>gone_ok (S6.unsuite ok) hN hi OU hq
     cases f with
     | next =>
      obtain ⟨σ6,H6,S6,q6⟩:=qx;exact end_ S6 fun s7 J7=>⟨_,_,J7,q6⟩
     | brk =>
      obtain ⟨σ6,H6,S6,q6⟩:=qx;exact end_ S6 fun s7 J7=>⟨_,_,J7,q6⟩
     | cont =>
      obtain ⟨σ6,H6,S6,q6⟩:=qx;exact end_ S6 fun s7 J7=>⟨_,_,J7,q6⟩
     | ret u =>
      obtain ⟨v6,σ6,H6,S6,r6,q6⟩:=qx;exact end_ S6 fun s7 J7=>⟨_,_,_,J7,r6,q6⟩
    | false =>
     show wpAny _ X.A (handleBy (.ref a) X.env hds2) _ _ _;exact ih (wY rfl)
  exact go hh w
 ·cases f with
  | next =>
   obtain ⟨σ',H',J',q⟩:=qx;exact wpAny_execs_nil ⟨σ',H',J'.ofTry ok,q⟩
  | brk =>
   obtain ⟨σ',H',J',q⟩:=qx;exact ⟨σ',H',J'.ofTry ok,q⟩
  | cont =>
   obtain ⟨σ',H',J',q⟩:=qx;exact ⟨σ',H',J'.ofTry ok,q⟩
  | ret u =>
   obtain ⟨v,σ',H',J',r,q⟩:=qx;exact ⟨v,σ',H',J'.ofTry ok,r,q⟩
end
end L2
namespace FT
open PySem PySem.W PySem.Spec PyProof.Rows L2
variable {n k i kk:Nat} {H:Hp} {ns cX kinds:List Str} {v x:V} {K:Qn} {m C B D:Int} {a p d f q:Addr} {xs:List V} {P:Program} {z:Str} {mg:Str->Option Value} {e:Expr} {elts:List Expr} {xZ:Pos} {base h:Heap} {Q:VK} {s:Shared} {bad:List Addr}
variable {b c:Bk} {ρ:Str->Lad} {r:Ru} {bs:List (Tr × Int)} {aS:List (Key × V)} {t:Tr} {o:Lad} {ls:List Lad}
theorem LeastOut.I4 {g:Gr} {n:Str} (h:LeastOut (fun m=>¬ EndK b m) g n) (hn:∀ x ∈ g.within,EndK b x.1.1):False:=by
 obtain ⟨x,hx,e⟩:=Qx h.mem;exact h.out (e ▸ hn x hx)
structure RkIn (b:Bk) (ρ:Str->Lad) (g:Gr):Prop where
 ow:OwnR b ρ
 deep:g.deep < 20
 parts:g.parts<=900
 fit:∀ ns,(∀ n ∈ b.names,EndK b n->n ∈ ns)->Gr.eA b ρ ns g
 rd:(Gr.rk b ρ g).deep<=45
theorem VN {α:Type} {C:Int} (hC:0<=C):∀ {bs:List (α × Int)},(∀ p ∈ bs,p.2<=C)->bZ bs<=bs.length*C
 | [],_=>by simp [bZ]
 | p::r,h=>by
  have h1:=h p (bM ..);have h2:=VN hC (bs:=r) fun q hq=>h q (bR _ hq);rw [bZ,Yk,Int.natCast_add,Int.add_mul];omega
theorem zm0 {σ:L2.St} {Q:L2.St->Hp->Prop} (h:Q (σ.set i (some v)) H):gName i v σ H Q:=h
def WO (K:Qn):Sp:=fun vs H Q _=>∃ (p cl:Addr) (v:V) (g:Gr) (C:Int),vs=[.ref p,v]/\cu H p cl/\GA K H v g/\g.Ok C/\g.deep<=60/\g.parts<=1000/\g ≠ .nil/\∀ (pa:Addr) (pl:Pl) (k:Str) (H':Hp),SB [p] H H'->cu H' p cl->SqT K H' pa (pl.map fun n:Nat=>V.int (n:Int))->Gr.bareAt g pl=some k->Q (.ref pa) H'
def VX:Sp:=fun vs H Q _=>∃ p cl:Addr,vs=[.ref p]/\cu H p cl/\∀ (n:Int) (H':Hp),0<=n->n < 10 ^ 9->SB [p] H H'->cu H' p cl->Q (.int n) H'
namespace Gr
variable {b:Bk} {ρ:Str->Lad} {ns:List Str}
def wq (x:Nat) (g:Gr):Int:=((g.parts:Nat)+1)*2 ^ (x+121*g.deep)
theorem jS (x:Nat) (g:Gr):0 < wq x g:=Int.mul_pos (by omega) (by have:=i8 (x+121*g.deep); omega)
theorem jQ {x:Nat} (hk:∀ n ∈ ns,(ρ n).Ok (2 ^ x)):∀ {g:Gr},Named ns g->g.Ok (2 ^ 119)->(∀ l ∈ rkT b ρ g,l.Ok (wq x g))/\∀ y,((rkT b ρ g).map fun l=>Lad.S l y).sum < wq x g
 | .nil,_,_=>And.intro (fun l hl=>nomatch hl) (fun y=>jS x .nil)
 | .cons k g m r,h,ho=>by
  obtain ⟨_,hg,xI,qA,hr,_⟩:=ho;have qB:k ∈ ns:=h ((k,g),m) (bM ..);obtain ⟨g1,g2⟩:=jQ hk (g:=g) (fun x hx=>h x (bR _ (jA _ hx))) hg;obtain ⟨r1,r2⟩:=jQ hk (g:=r) (fun x hx=>h x (bR _ (kP _ hx))) hr;have p0:=jS x g;have p1:=jS x r;have px:=i8 x;have io:(Lad.aY (rkT b ρ g)).Ok (wq x g):=Lad.dU g1 (by omega) (Kw _) g2;have lo:=Lad.jh (w:=b.wide k) (hk k qB) io px p0;have d0:g.deep+1<=(Gr.cons k g m r).deep:=by show g.deep+1<=max (1+g.deep) r.deep; omega
  have d1:r.deep<=(Gr.cons k g m r).deep:=by show r.deep<=max (1+g.deep) r.deep; omega
  have ep:(Gr.cons k g m r).parts=1+g.parts+r.parts:=rfl;have eN:wq x (Gr.cons k g m r)=((g.parts:Nat)+1+((r.parts:Nat)+1))*2 ^ (x+121*(Gr.cons k g m r).deep):=by
   unfold wq;rw [ep]
   congr 1
   push_cast
   omega
  rw [eN];generalize (Gr.cons k g m r).deep=D at d0 d1;clear ep eN;have m1:=jx (show x<=x+121*g.deep by omega);have e0:=i8 (x+121*g.deep);have eD:=i8 (x+121*D)
  -- the tree,so many times
  have hL:(2:Int) ^ x+wq x g<=((g.parts:Nat)+1)*2 ^ (x+121*g.deep+1):=by
   unfold wq;rw [BB];have:(1:Int)*2 ^ (x+121*g.deep)<=((g.parts:Nat)+1)*2 ^ (x+121*g.deep):=Int.mul_le_mul_of_nonneg_right (by omega) (by omega);rw [Int.one_mul] at this;have e2:(((g.parts:Nat):Int)+1)*(2*2 ^ (x+121*g.deep))=((g.parts:Nat)+1)*2 ^ (x+121*g.deep)+((g.parts:Nat)+1)*2 ^ (x+121*g.deep):=by
    rw [Int.mul_left_comm,Int.two_mul]
   omega
  have Ji:=lo.mono hL;have to:=Lad.fZ Ji (show 0<=m by omega);have hb:(((g.parts:Nat):Int)+1)*2 ^ (x+121*g.deep+1)*m+(((g.parts:Nat):Int)+1)*2 ^ (x+121*g.deep+1)<=((g.parts:Nat)+1)*2 ^ (x+121*D):=by
   have h2:(((g.parts:Nat):Int)+1)*2 ^ (x+121*g.deep+1)*(m+1)<=(((g.parts:Nat):Int)+1)*2 ^ (x+121*g.deep+1)*2 ^ 119:=Int.mul_le_mul_of_nonneg_left (by omega) (Int.mul_nonneg (by omega) (by have:=i8 (x+121*g.deep+1); omega));rw [Int.mul_add,Int.mul_one,Int.mul_assoc _ _ ((2:Int) ^ 119),<- Int.pow_add] at h2;have h3:(((g.parts:Nat):Int)+1)*2 ^ (x+121*g.deep+1+119)<=((g.parts:Nat)+1)*2 ^ (x+121*D):=Int.mul_le_mul_of_nonneg_left (jx (by omega)) (by omega);omega
  have to2:=to.mono hb;have Ga:wq x r<=((r.parts:Nat)+1)*2 ^ (x+121*D):=Int.mul_le_mul_of_nonneg_left (jx (by omega)) (by omega);have eS:(((g.parts:Nat):Int)+1+((r.parts:Nat)+1))*2 ^ (x+121*D)=((g.parts:Nat)+1)*2 ^ (x+121*D)+((r.parts:Nat)+1)*2 ^ (x+121*D):=Int.add_mul ..;have z1:(0:Int) < ((g.parts:Nat)+1)*2 ^ (x+121*D):=Int.mul_pos (by omega) (by omega);have z2:(0:Int) < ((r.parts:Nat)+1)*2 ^ (x+121*D):=Int.mul_pos (by omega) (by omega);rw [eS];refine ⟨fun l hl=>?_,fun y=>?_⟩
  ·rcases Qv hl with rfl | hl
   ·exact to2.mono (by omega)
   ·exact (r1 l hl).mono (by omega)
  ·show Lad.S (Lad.dX (fc (b.wide k) (ρ k) (Lad.aY (rkT b ρ g))) m) y+((rkT b ρ r).map fun l=>Lad.S l y).sum < _;have s2:=r2 y;have s3:Lad.S (Lad.dX (fc (b.wide k) (ρ k) (Lad.aY (rkT b ρ g))) m) y < ((g.parts:Nat)+1)*2 ^ (x+121*D)\/Lad.S (Lad.dX (fc (b.wide k) (ρ k) (Lad.aY (rkT b ρ g))) m) y<=0:=by
    rcases Lad.c6 to2 y with ⟨h1,_⟩ | ⟨mm,_,h2,_,h4⟩
    ·right; omega
    ·left; omega
   omega
theorem Di {x:Nat} (hk:∀ n ∈ ns,(ρ n).Ok (2 ^ x)) {g:Gr} (hn:Named ns g) (ho:g.Ok (2 ^ 119)):(rk b ρ g).Ok (wq x g):=by
 obtain ⟨n1,n2⟩:=jQ (b:=b) hk hn ho;exact Lad.dU n1 (by have:=jS x g; omega) (Kw _) n2
theorem mq {P D x:Nat} (hk:∀ n ∈ ns,n ∈ b.names/\ρ n ≠ .nil/\(ρ n).parts<=P/\(ρ n).deep<=D/\(ρ n).Ok (2 ^ x)) (hP:1<=P):∀ {g:Gr},Named ns g->g.Ok (2 ^ 119)->P*g.parts<=890000->D+g.deep<=28->(((g.parts:Nat):Int)+2)*2 ^ (x+121*g.deep)<=2 ^ 2000->eA b ρ ns g
 | .nil,_,_,_,_,_=>trivial
 | .cons k g m r,h,ho,hp,hd,hx=>by
  have B7:∀ n ∈ ns,(ρ n).parts<=P/\(ρ n).deep<=D:=fun n hn=>⟨(hk n hn).2.2.1,(hk n hn).2.2.2.1⟩;have B4:∀ n ∈ ns,(ρ n).Ok (2 ^ x):=fun n hn=>(hk n hn).2.2.2.2;have nm:2 ^ 119<=(2:Int) ^ 2000:=jx (by decide);obtain ⟨qB,qW⟩:k ∈ ns/\(Named ns g/\Named ns r):=⟨h ((k,g),m) (bM ..),fun x hx=>h x (bR _ (jA _ hx)),fun x hx=>h x (bR _ (kP _ hx))⟩;obtain ⟨IX,hg,xI,qA,hr,su⟩:=ho;have ho:(Gr.cons k g m r).Ok (2 ^ 119):=⟨IX,hg,xI,qA,hr,su⟩;have e1:(Gr.cons k g m r).parts=1+g.parts+r.parts:=rfl;have e2:(Gr.cons k g m r).deep=max (1+g.deep) r.deep:=rfl;rw [e1,Nat.mul_add,Nat.mul_add,Nat.mul_one] at hp;have dg:g.deep<=(Gr.cons k g m r).deep:=by rw [e2]; omega
  have dr:r.deep<=(Gr.cons k g m r).deep:=by rw [e2]; omega
  have lO:(((g.parts:Nat):Int)+2)*2 ^ (x+121*g.deep)<=2 ^ 2000:=by
   refine Int.le_trans (Int.mul_le_mul (by rw [e1]; omega) (jx (by omega)) (by have:=i8 (x+121*g.deep); omega) (by omega)) hx
  have lu:(((r.parts:Nat):Int)+2)*2 ^ (x+121*r.deep)<=2 ^ 2000:=by
   refine Int.le_trans (Int.mul_le_mul (by rw [e1]; omega) (jx (by omega)) (by have:=i8 (x+121*r.deep); omega) (by omega)) hx
  obtain ⟨s1,s2⟩:=dR B7 h;obtain ⟨g1,g2⟩:=dR B7 qW.1;obtain ⟨n1,n2⟩:=jQ (b:=b) B4 qW.1 hg;have p0:=jS x g;have px:=i8 x;have io:(Lad.aY (rkT b ρ g)).Ok (wq x g):=Lad.dU n1 (by omega) (Kw _) n2;have lo:=(Lad.jh (w:=b.wide k) (B4 k qB) io px p0);have m1:=jx (show x<=x+121*g.deep by omega);have m2:(2:Int) ^ x+wq x g<=2 ^ 2000:=by
   have e5:(((g.parts:Nat):Int)+2)*2 ^ (x+121*g.deep)=wq x g+2 ^ (x+121*g.deep):=by
    show _=(((g.parts:Nat):Int)+1)*2 ^ (x+121*g.deep)+2 ^ (x+121*g.deep);rw [show (((g.parts:Nat):Int)+2)=((g.parts:Nat):Int)+1+1 by omega,Int.add_mul _ 1,Int.one_mul]
   omega
  obtain ⟨kb,DG,kp,kd,kx⟩:=hk k qB;have num:∀ {l:Lad},l.Ok (2 ^ 2000)->∀ p ∈ l.ps,0<=p.2/\p.2 < 2 ^ 2000:=fun hl p hp=>by
   have:=(Lad.bj.mp hl).1 p hp;exact ⟨by omega,this.2.2⟩
  have ip:(Lad.aY (rkT b ρ g)).parts<=P*g.parts:=Yb (Lad.cK _) g1;have DJ:(Lad.aY (rkT b ρ g)).deep<=D+g.deep:=Lad.dG g2;have lp:=Lad.iY (b.wide k) (ρ k) (Lad.aY (rkT b ρ g));have ld:=Lad.jW (w:=b.wide k) (o:=ρ k) (l:=Lad.aY (rkT b ρ g)) (n:=D+g.deep) (by omega) DJ;refine ⟨⟨qB,kb,DG,⟨by omega,by omega,num (kx.mono (by omega))⟩,⟨by show (Lad.aY (rkT b ρ g)).deep<=29; omega,by show (Lad.aY (rkT b ρ g)).parts<=900000; omega,num (io.mono (by omega))⟩,⟨by show (fc (b.wide k) (ρ k) (Lad.aY (rkT b ρ g))).deep<=29; omega,by show (fc (b.wide k) (ρ k) (Lad.aY (rkT b ρ g))).parts<=900000; omega,num (lo.mono (by omega))⟩,by omega,by omega,?_⟩,mq hk hP qW.1 hg (by omega) (by omega) lO,mq hk hP qW.2 hr (by omega) (by omega) lu⟩;have key:∀ ls:List Lad,(ls.flatMap Lad.ps).length<=(ls.map Lad.parts).sum:=by
   intro ls
   induction ls with
   | nil=>exact Yc _
   | cons l r ih =>
    rw [List.flatMap_cons,Yf,Ky,List.sum_cons,Lad.bB];have:=l.aF;omega
  have:=key (rkT b ρ (.cons k g m r));rw [e1,Nat.mul_add,Nat.mul_add,Nat.mul_one] at s1;exact Yb (Yb this s1) (by omega)
end Gr
structure GrvD (c:Bk) (g:Gr):Prop where
 Me:Gr.hI c (cW c) c.names g
 lfL:LFitL (Gr.rk c (cW c) g)
 TN:∀ ns,(∀ n ∈ c.names,EndK c n->n ∈ ns)->Gr.eA c (cW c) ns g
 lfW:LFitW (Gr.rk c (cW c) g)
 ok:(Gr.rk c (cW c) g).Ok (2 ^ 1900)
 parts:(Gr.rk c (cW c) g).parts<=242*g.parts
 deep:(Gr.rk c (cW c) g).deep<=26
theorem Made.K5 {lv:Str->Nat} (M:Made c lv) {g:Gr} (ho:g.Ok (2 ^ 119)) (hn:Gr.Named c.names g) (hp:g.parts<=120) (hd:g.deep<=12):GrvD c g:=by
 have sm:∀ n ∈ c.names,(cW c n).parts<=242/\(cW c n).deep<=14:=fun n hn=>⟨(M.xk n hn).2.1,(M.xk n hn).2.2.1⟩;have nu:∀ n ∈ c.names,(cW c n).Ok (2 ^ 394):=fun n hn=>(M.xk n hn).2.2.2;have OS:g.Ok (2 ^ 2100):=ho.mono (jx (by decide));obtain ⟨z1,z2⟩:=Gr.yk (b:=c) sm hn;have pw:(2:Int) ^ (394+121*g.deep)<=2 ^ 1846:=jx (by omega);have p0:=i8 (394+121*g.deep);have hx:(((g.parts:Nat):Int)+2)*2 ^ (394+121*g.deep)<=2 ^ 1900:=by
  have h1:(((g.parts:Nat):Int)+2)*2 ^ (394+121*g.deep)<=128*2 ^ 1846:=Int.mul_le_mul (by omega) pw (by omega) (by decide);have h2:(128:Int)*2 ^ 1846<=2 ^ 1900:=by
   rw [show (128:Int)=2 ^ 7 from rfl,<- Int.pow_add];exact jx (by decide)
  exact Int.le_trans h1 h2
 have oD:(Gr.rk c (cW c) g).Ok (2 ^ 1900):=(Gr.Di (b:=c) nu hn ho).mono (Int.le_trans (Int.mul_le_mul_of_nonneg_right (by omega) (by omega)) hx);have w0:(2:Int) ^ 1900<=2 ^ 2000:=jx (by decide);exact ⟨Gr.lM (fun n hn=>⟨hn,M.xk n hn⟩) (by decide) hn OS (by omega) (by omega) (by omega),LFitL.of (by omega) (by omega) oD (by omega),fun ns hs=>Gr.eA.mono (fun n hn=>hs n hn (M.ends n hn)) (Gr.mq (ns:=c.names) (fun n hn=>⟨hn,M.xk n hn⟩) (by decide) hn ho (by omega) (by omega) (Int.le_trans hx w0)),LFitW.of (by omega) (by omega) oD (by omega),oD,by omega,by omega⟩
def pA (b:Bk) (g:Gr) (os:List (Option Int)) (ro so:Option Int) (o:Ro):Option Str->Prop
 | some n=>Due34 b g os ro so o/\o=.done/\LeastOut (fun m=>¬ EndK b m) g n
 | none=>Due34 b g os ro so o/\(o=.done->∀ x ∈ g.within,EndK b x.1.1)
theorem pA.old {g:Gr} {os:List (Option Int)} {ro so:Option Int} {o:Ro}:∀ {e:Option Str},pA b g os ro so o e->Due34 b g os ro so o
 | some _,h=>h.1
 | none,h=>h.1
def PaX (NK NP NR NN EE:Addr) (H:Hp) (E:XK) (P:Prop):Ro->Option Str->Prop
 | .kind n,_=>∀ (d:Addr) (H':Hp),SB [] H H'->H d=none->H' d=some (.xd [("kind",.str n)])->E (.ref NK) (some d) H'
 | .place,_=>∀ H',SB [] H H'->E (.ref NP) none H'
 | .rule,_=>∀ H',SB [] H H'->E (.ref NR) none H'
 | .said,_=>∀ H',SB [] H H'->E (.ref NN) none H'
 | .rise,_=>True
 | .done,some n=>∀ (d:Addr) (H':Hp),SB [] H H'->H d=none->H' d=some (.xd [("kind",.str n)])->E (.ref EE) (some d) H'
 | .done,none=>P
structure Pin (K:Qn) (H:Hp) (w:V) (a:Addr) (x y:V) (b:Bk) (g:Gr) (os:List (Option Int)) (ro so:Option Int):Prop where
 ok:b.Ok
 gr:GA K H w g
 xN:∃ D,g.Ok D
 deep:g.deep<=14
 parts:g.parts<=40
 nm:∃ ns:List Str,Gr.Named ns g/\ns.length<=60
 pl:∃ xs,SqT K H a xs/\Whs K H xs os
 ru:Wh K H x ro
 sa:Wh K H y so
 sn:∀ n,so=some n->n < 2 ^ 900
def PaQ (K:Qn) (H:Hp) (Q:VK) (b:Bk) (g:Gr) (os:List (Option Int)) (ro so:Option Int):Prop :=
 ∀ (pl:Pl) (k:Str) (kd:Kd) (i:Nat) (r:Ru) (n:Int),os=ik pl->Gr.bareAt g pl=some k->b.get k=some kd->ro=some (i:Int)->(lN::kd.rs)[i]?=some r->so=some n->0<=n ->
  ∃ ρ:Str->Lad,RkIn b ρ g/\RkIn b ρ (Gr.stk b n (Gr.fM r n) pl g).1/\((Gr.rk b ρ (Gr.stk b n (Gr.fM r n) pl g).1).lt (Gr.rk b ρ g)=true/\(Gr.rk b ρ g).deep<=29/\(Gr.rk b ρ (Gr.stk b n (Gr.fM r n) pl g).1).deep<=29/\(Gr.rk b ρ g).parts<=900000/\(Gr.rk b ρ (Gr.stk b n (Gr.fM r n) pl g).1).parts<=900000) /\
   ∀ (T:Addr) (x1 x2 x3:V) (H':Hp),SB [] H H'->SqT K H' T [x1,x2,x3]->LA K H' x1 (Gr.rk b ρ g)->LA K H' x2 (Gr.rk b ρ (Gr.stk b n (Gr.fM r n) pl g).1)->Dp K H' x3 (Lad.dro (Gr.rk b ρ g) (Gr.rk b ρ (Gr.stk b n (Gr.fM r n) pl g).1)).enc->Q (.ref T) H'
def N2 (K:Qn) (C NK NP NR NN EE:Addr):Sp:=fun vs H Q E=>∃ (v w x y:V) (a:Addr) (b:Bk) (g:Gr) (os:List (Option Int)) (ro so:Option Int) (o:Ro) (e:Option Str),vs=[v,w,.ref a,x,y]/\hJ K C H v b/\Pin K H w a x y b g os ro so/\pA b g os ro so o e/\PaX NK NP NR NN EE H E (PaQ K H Q b g os ro so) o e
def FF (K:Qn) (N:Addr) (n:Nat):Sp:=fun vs H Q E=>∃ (v u:V) (l k:Lad),vs=[v,u]/\LA K H v l/\LA K H u k/\l.deep < n/\l.deep<=29/\k.deep<=29/\l.parts<=900000/\k.parts<=900000/\(k.lt l=true->∀ (x:V) (H':Hp),SB [] H H'->Dp K H' x (Lad.dro l k).enc->Q x H')/\(k.lt l=false->∀ H',SB [] H H'->E (.ref N) none H')
def FI (K:Qn) (n:Nat):Sp:=fun vs H Q _=>∃ (v u:V) (l k:Lad),vs=[v,u]/\LA K H v l/\LA K H u k/\l.deep < n/\l.deep<=29/\k.deep<=29/\l.parts<=900000/\k.parts<=900000/\k.lt l=true/\∀ (x:V) (H':Hp),SB [] H H'->Dp K H' x (Lad.dro l k).enc->Q x H'
def Rh:Ro->Option Str->List PyData
 | .kind n,_=>[.str "kind",.str n]
 | .place,_=>[.bool true,.bool false,.bool false,.bool true]
 | .rule,_=>[.bool false,.bool true,.bool false,.bool true]
 | .said,_=>[.bool false,.bool false,.bool true,.bool true]
 | .rise,_=>[]
 | .done,some n=>[.str "endless",.str n]
 | .done,none=>[]
def pH (K:Qn) (C:Addr):Sp:=fun vs H Q _=>∃ (v w x y:V) (a:Addr) (b:Bk) (g:Gr) (os:List (Option Int)) (ro so:Option Int) (o:Ro) (e:Option Str),vs=[v,w,.ref a,x,y]/\hJ K C H v b/\Pin K H w a x y b g os ro so/\pA b g os ro so o e/\¬ (o=.done/\e=none)/\∀ (T:Addr) (H':Hp),SB [] H H'->Dp K H' (.ref T) (.list (Rh o e))->Q (.ref T) H'
structure Rg52 (K:Qn) (C:Addr) (H:Hp) (v w:V) (c:Bk) (rg:Str) (g:Gr):Prop where
 bk:hJ K C H v (c++[⟨rg,true,[(.nil,.cons rg .nil 1 .nil)]⟩])
 rd:z11 c ⟨rg,true,[(.nil,.cons rg .nil 1 .nil)]⟩
 len:c.length<=5
 ZZ:c.Ok
 ends:∀ n ∈ c.names,EndK c n
 xA:dE rg
 ga:GA K H w g
 xN:g.Ok (2 ^ 110)
 deep:g.deep<=8
 parts:g.parts<=8
 nm:Gr.Named c.names g
theorem Rg52.ef {K:Qn} {C:Addr} {H H':Hp} {v w:V} {c:Bk} {rg:Str} {g:Gr} (h:Rg52 K C H v w c rg g) (s:SB [] H H'):Rg52 K C H' v w c rg g :=
 ⟨h.bk.ef s,h.rd,h.len,h.ZZ,h.ends,h.xA,h.ga.sb s,h.xN,h.deep,h.parts,h.nm⟩
theorem zc0 {rg:Str} {rs:List Ru} (h:z11 c ⟨rg,false,rs⟩):z11 c ⟨rg,true,rs⟩:=by
 refine ⟨h.new,⟨by simp,?_,?_,fun k hk=>?_⟩,h.ring⟩
 ·have:=h.ok.len;rw [Yf] at this ⊢;exact this
 ·have:=h.ok.nd;rw [Bk.names,Yj] at this ⊢;exact this
 ·have en:Bk.names (c++[⟨rg,true,rs⟩])=Bk.names (c++[⟨rg,false,rs⟩]):=by rw [Bk.names,Bk.names,Yj,Yj]; rfl
  rw [en];rcases Qw hk with e | e
  ·exact h.ok.kd k (jA _ e)
  ·rw [Qy e];exact h.ok.kd ⟨rg,false,rs⟩ (kP c (Kv rfl))
def WN (K:Qn) (C:Addr):Sp:=fun vs H Q _=>∃ (v w:V) (c:Bk) (rg:Str) (g:Gr),vs=[v,w,.str rg]/\Rg52 K C H v w c rg g/\∀ H',SB [] H H'->Q (.bl true) H'
def g9:List Str:=["k","l","m","n","o","p","q","r","s","t"]
def jv:List Str:=["j","i","h","g","f","e","d","c","b","a"]
theorem zf3:g9.Nodup:=by decide +kernel
theorem zf9:jv.Nodup:=by decide +kernel
theorem V2:∀ n ∈ g9,dE n:=by
 intro n hn;simp only [g9,List.mem_cons,aP,or_false] at hn;rcases hn with rfl | rfl | rfl | rfl | rfl | rfl | rfl | rfl | rfl | rfl <;> exact ⟨by decide +kernel,by decide +kernel,by decide +kernel⟩
theorem zeu:∀ n ∈ jv,dE n:=by
 intro n hn;simp only [jv,List.mem_cons,aP,or_false] at hn;rcases hn with rfl | rfl | rfl | rfl | rfl | rfl | rfl | rfl | rfl | rfl <;> exact ⟨by decide +kernel,by decide +kernel,by decide +kernel⟩
theorem zet:∀ n ∈ jv,n ∉ g9:=by decide +kernel
theorem yB:g9.Pairwise fun m n=>m.cps.toList < n.cps.toList:=by decide +kernel
theorem zf6 {c:Nat} (h:("klmnopqrst":Str).cps[i]?=some c):g9[i]?=some ⟨#[c]⟩:=by
 have e:∀ j:Fin 10,g9[j.1]?=(("klmnopqrst":Str).cps[j.1]?).map fun c=>(⟨#[c]⟩:Str):=by decide +kernel
 have hi:i < 10:=by
  obtain ⟨h1,_⟩:=Array.getElem?_eq_some_iff.mp h;exact h1
 rw [e ⟨i,hi⟩,h]; rfl
theorem zfa {c:Nat} (h:("jihgfedcba":Str).cps[i]?=some c):jv[i]?=some ⟨#[c]⟩:=by
 have e:∀ j:Fin 10,jv[j.1]?=(("jihgfedcba":Str).cps[j.1]?).map fun c=>(⟨#[c]⟩:Str):=by decide +kernel
 have hi:i < 10:=by
  obtain ⟨h1,_⟩:=Array.getElem?_eq_some_iff.mp h;exact h1
 rw [e ⟨i,hi⟩,h]; rfl
theorem zdn (hl:ns.length<=8):∃ s0 s1:Str,((g9.filter fun n=>decide (n ∉ ns)).take 2)=[s0,s1]/\s0 ∈ g9/\s1 ∈ g9/\s0 ∉ ns/\s1 ∉ ns/\s0.cps.toList < s1.cps.toList:=by
 have h:=PX ns zf3;have KZ:g9.length=10:=rfl;have srt:=yB.filter (fun n=>decide (n ∉ ns));have mem:∀ n ∈ (g9.filter fun n=>decide (n ∉ ns)),n ∈ g9/\n ∉ ns:=fun n hn=>by simpa [List.mem_filter] using hn
 generalize (g9.filter fun n=>decide (n ∉ ns))=ss at h srt mem
 match ss,h,srt,mem with
 | [],h,_,_=>simp at h; omega
 | [_],h,_,_=>simp at h; omega
 | x::y::r,_,srt,mem =>
  have hx:=mem x (bM ..);have hy:=mem y (bR _ (bM ..));exact ⟨x,y,Ja,hx.1,hy.1,hx.2,hy.2,(List.pairwise_cons.mp srt).1 y (bM ..)⟩
theorem zdi (hl:ns.length<=8):∃ s0:Str,(jv.filter fun n=>decide (n ∉ ns))[0]?=some s0/\s0 ∈ jv/\s0 ∉ ns:=by
 have h:=PX ns zf9;have KZ:jv.length=10:=rfl;have mem:∀ n ∈ (jv.filter fun n=>decide (n ∉ ns)),n ∈ jv/\n ∉ ns:=fun n hn=>by simpa [List.mem_filter] using hn
 generalize (jv.filter fun n=>decide (n ∉ ns))=ss at h mem
 match ss,h,mem with
 | [],h,_=>simp at h; omega
 | x::r,_,mem =>
  have hx:=mem x (bM ..);exact ⟨x,Ja,hx.1,hx.2⟩
section
variable {K:Qn} {C:Addr} {H:Hp} {v w:V} {c:Bk} {rg:Str} {g:Gr}
abbrev my (c:Bk) (rg:Str):Bk:=c++[⟨rg,true,[(.nil,.cons rg .nil 1 .nil)]⟩]
theorem Rg52.names (h:Rg52 K C H v w c rg g):Bk.names (my c rg)=c.names++[rg]:=h.rd.names
theorem Rg52.nl (h:Rg52 K C H v w c rg g):(Bk.names (my c rg)).length<=6:=by
 rw [h.names,Yf,Ye];have:=h.len;show c.length+1<=6;omega
theorem Rg52.YB (h:Rg52 K C H v w c rg g):Gr.Named (Bk.names (my c rg)) g:=fun x hx=>h.rd.sub _ (h.nm x hx)
theorem Rg52.pin (h:Rg52 K C H v w c rg g) {G:Hp} {u:V} {k:Gr} (hu:GA K G u k) (ho:∃ D,k.Ok D) (hd:k.deep<=14) (hp:k.parts<=40) {ns:List Str} (hn:Gr.Named ns k) (hl:ns.length<=60) {a:Addr} {xs:List V} {x y:V} {os:List (Option Int)} {ro so:Option Int} (ha:SqT K G a xs) (hx:Whs K G xs os) (hr:Wh K G x ro) (hs:Wh K G y so) (sn:∀ n,so=some n->n < 2 ^ 900):Pin K G u a x y (my c rg) k os ro so :=
 ⟨h.rd.ok,hu,ho,hd,hp,⟨ns,hn,hl⟩,⟨xs,ha,hx⟩,hr,hs,sn⟩
theorem zey {g:Gr} {pl:Pl} {k:Str} (h:Gr.bareAt g pl=some k) {os:List (Option Int)} {o:Option Int} (e:os=ik pl++[o]):∀ xB k',os=ik xB->Gr.bareAt g xB ≠ some k':=fun xB k' e' hb=>by
 have h1:=Gr.j2 "" h;have h2:=Gr.j2 "" hb;rw [<- e',e,Oi,h1] at h2;have h3:lk (k,Gr.nil) [o]=some (k',Gr.nil):=h2;cases o with
 | none=>cases h3
 | some n =>
  have:stp Gr.nil (some n)=none:=by unfold stp; split <;> simp [Gr.ps]
  unfold lk at h3;rw [this] at h3;cases h3
theorem Wu {g:Gr} {n:Int} (hn:(g.ps.length:Int)<=n):∀ pl k,[some n]=ik pl->Gr.bareAt g pl ≠ some k:=fun pl k e hb=>by
 match pl,e with
 | [i],e =>
  obtain ⟨p,e1,_⟩:=Gr.bT hb;have e2:n=(i:Int):=Yd (List.head_eq_of_cons_eq e);have:=(Kq e1).1;omega
theorem zdr {g:Gr}:∀ pl k,([]:List (Option Int))=ik pl->Gr.bareAt g pl ≠ some k:=fun pl k e hb=>by
 match pl,e with
 | [],_=>exact Gr.qN hb rfl
def WS (K:Qn) (C:Addr):Sp:=fun vs H Q _=>∃ (v w:V) (d a:Addr) (b c:Bk) (rg:Str) (g:Gr) (pl:Pl) (m:Nat),vs=[v,.ref d,w,.ref a,.int (m:Nat)]/\xw K H d b/\b.names.length<=8/\(∀ n,n ∈ c.names ↔ n ∈ b.names)/\Rg52 K C H v w c rg g/\rg ∉ g9/\SqT K H a (pl.map fun n:Nat=>V.int (n:Int))/\(g ≠ .nil->∃ k kd,Gr.bareAt g pl=some k/\c.get k=some kd/\kd.rs.length=m)/\∀ H',SB [] H H'->Q (.bl true) H'
theorem Wo {g:Gr} (go:g.Ok (2 ^ 110)) (gp:g.parts<=8) (gd:g.deep<=8) (h1:dE t.1) (h2:t.2.Ok (2 ^ 110)) (h3:t.2.deep<=2) (h4:t.2.parts<=4) (m1:1<=m) (mM:m<=10) (hn:Gr.Named ns g) (hk:t.1 ∈ ns) (D9:Gr.Named ns t.2) :
  (g.ps++[(t,m)]).length<=1000/\(∀ p ∈ g.ps++[(t,m)],dE p.1.1/\p.1.2.Ok (2 ^ 110)/\p.1.2.deep<=18)/\(Gr.tidy (g.ps++[(t,m)])).deep<=9/\(Gr.tidy (g.ps++[(t,m)])).parts<=13/\Gr.Named ns (Gr.tidy (g.ps++[(t,m)]))/\(Gr.tidy (g.ps++[(t,m)])).Ok (2 ^ 119)/\(∃ m',(t,m') ∈ (Gr.tidy (g.ps++[(t,m)])).ps)/\t.1 ∈ (Gr.tidy (g.ps++[(t,m)])).within.map (·.1.1)/\∀ x ∈ t.2.within,x.1.1 ∈ (Gr.tidy (g.ps++[(t,m)])).within.map (·.1.1):=by
 have O9:=g.aF;have IW:∀ p ∈ g.ps++[(t,m)],dE p.1.1/\p.1.2.Ok (2 ^ 110)/\1<=p.2:=fun p hp=>by
  rcases Qw hp with e | e
  ·obtain ⟨a1,a2,a3,_⟩:=(Gr.bj.mp go).1 p e;exact ⟨a1,a2,a3⟩
  ·rw [Qy e];exact ⟨h1,h2,m1⟩
 have Rx:∀ p ∈ g.ps++[(t,m)],p.2<=2 ^ 110:=fun p hp=>by
  rcases Qw hp with e | e
  ·obtain ⟨_,_,_,a4⟩:=(Gr.bj.mp go).1 p e;exact Int.le_of_lt a4
  ·rw [Qy e]; show m<=2 ^ 110; exact Int.le_trans mM (by decide)
 have ZX:∀ p ∈ g.ps++[(t,m)],p.1.2.deep<=8:=fun p hp=>by
  rcases Qw hp with e | e
  ·have:=g.av p e; omega
  ·rw [Qy e]; show t.2.deep<=8; omega
 have knE:∀ p ∈ g.ps++[(t,m)],p.1.1 ∈ ns/\Gr.Named ns p.1.2:=fun p hp=>by
  rcases Qw hp with e | e
  ·exact Gr.aR.mp hn p e
  ·rw [Qy e];exact ⟨hk,D9⟩
 have bel:(g.ps++[(t,m)]).length=g.ps.length+1:=by rw [Yf]; rfl
 have hm:(t,m) ∈ g.ps++[(t,m)]:=kP g.ps (Kv rfl);have kh:=Gr.wD (fun p hp=>(IW p hp).2.2) hm;refine ⟨by omega,fun p hp=>⟨(IW p hp).1,(IW p hp).2.1,by have:=ZX p hp; omega⟩,Gr.kz fun p hp=>by have:=ZX p hp; omega,Yb (Gr.jb _) (by rw [Gr.aX,Gr.ku]; show g.parts+(1+t.2.parts+0)<=13; omega),Gr.rE knE,Gr.pQ IW (by
  have h1:=VN (C:=2 ^ 110) (by decide) Rx;have h2:((g.ps++[(t,m)]).length:Int)*2 ^ 110<=10*2 ^ 110:=Int.mul_le_mul_of_nonneg_right (by omega) (by decide);have h3:(10:Int)*2 ^ 110 < 2 ^ 119:=by decide
  omega) (by decide),Gr.rF (fun p hp=>(IW p hp).2.2) hm,kh.1,kh.2⟩
theorem Rg52.least (h:Rg52 K C H v w c rg g) {k:Gr} (hn:Gr.Named (c.names++[rg]) k) (hm:rg ∈ k.within.map (·.1.1)):LeastOut (fun m=>¬ EndK (my c rg) m) k rg:=by
 refine ⟨hm,h.rd.vK,fun m hm hE=>?_⟩;have e:m=rg:=by
  obtain ⟨x,hx,e⟩:=Qx hm;have h2:=hn x hx;rw [e] at h2;rcases Qw h2 with z | z
  ·exact absurd (h.rd.ends h.ZZ (h.ends _ z) z) hE
  ·exact Qy z
 rw [e];exact fun z=>List.lt_irrefl _ z
theorem Rg52.far (h:Rg52 K C H v w c rg g) {k:Gr} {s0 s1:Str} (hn:Gr.Named (c.names++[s0,s1]) k) (hm:s0 ∈ k.within.map (·.1.1)) (h0:s0 ∉ c.names) (hr:s0 ≠ rg) (h01:s0.cps.toList < s1.cps.toList):LeastOut (fun m=>m ∉ Bk.names (my c rg)) k s0:=by
 have nn:=h.names;refine ⟨hm,?_,fun m hm hE=>?_⟩
 ·rw [nn];intro z;rcases Qw z with z | z
  ·exact h0 z
  ·exact hr (Qy z)
 ·obtain ⟨x,hx,e⟩:=Qx hm;have h2:=hn x hx;rw [e] at h2;rcases Qw h2 with z | z
  ·exact absurd (by rw [nn]; exact jA _ z) hE
  ·rcases Qv z with z | z
   ·rw [z]; exact fun z=>List.lt_irrefl _ z
   ·rw [Qy z];exact fun z=>List.lt_irrefl _ (List.lt_trans h01 z)
theorem Rg52.get (h:Rg52 K C H v w c rg g):(my c rg).get rg=some ⟨rg,true,[(.nil,.cons rg .nil 1 .nil)]⟩:=by
 have:=h.rd.new;have hn:c.get rg=none:=by
  cases e:c.get rg with
  | none=>rfl
  | some kd =>
   obtain ⟨h1,h2⟩:=Bk.get_some e;exact absurd (h2 ▸ Ku ⟨kd,h1,Ja⟩) this
 unfold Bk.get at hn ⊢;rw [List.find?_append,hn];simp
theorem za5 {ds:List PyData} (hp:PyData.canLayAll0 ds=true) (hd:PyData.depthAll ds<=5):SeqAt.shaped (.list ds)=true:=by
 unfold SeqAt.shaped;simp [PyData.canLay0,hp,PyData.depth];omega
theorem FO {s n:Str} (hs:PyData.strOk s=true) (hn:dE n):SeqAt.shaped (.list [.str s,.str n])=true:=za5 (by simp [PyData.canLayAll0,PyData.canLay0,hs,Gr.dq hn]) (by simp [PyData.depth,PyData.depthAll])
theorem Pu (s n:Str):PyData.eqv (.list [.str s,.str n]) (.list [.str s,.str n])=true:=by simp [PyData.eqv,PyData.eqvAll]
theorem Lad.l7 {l k:Lad} (hl:l.deep<=30) (hk:k.deep<=30):SeqAt.shaped (.tuple [l.enc,k.enc])=true:=by
 have h1:=Lad.aH (l:=l) (by omega);have h2:=Lad.aH (l:=k) (by omega);have d1:=l.cz;have d2:=k.cz;unfold SeqAt.shaped at h1 h2 ⊢;rw [Bool.and_eq_true] at h1 h2 ⊢;refine ⟨?_,?_⟩
 ·simp [PyData.canLay0,PyData.canLayAll0,h1.1,h2.1]
 ·simp [PyData.depth,PyData.depthAll]; omega
theorem Lad.Bn (l k:Lad):PyData.eqv (.tuple [l.enc,k.enc]) (.tuple [l.enc,k.enc])=true:=by simp [PyData.eqv,PyData.eqvAll,Lad.bc]
theorem VA {K:Qn} {H:Hp}:∀ (d:Dro) {v:V},Dp K H v d.enc->Lk K H d v true
 | .fin _,_,h=>by
  obtain ⟨A,rfl,hA⟩:=NV h;exact .fin hA
 | .man _,_,h=>by
  obtain ⟨A,rfl,hA⟩:=NV h;exact .man hA
 | .ex _ d,_,h=>by
  obtain ⟨A,y,rfl,hA,hy⟩:=Vy h;exact .ex hA (VA d hy)
def top (i:Nat):Stmt:=PySem.Challenge.pw_felltimber_k52_papers_of_falls.main.body.getD i (.Pass ⟨0,0,0,0⟩)
abbrev HK:Stmt:=top 3
abbrev HR:Stmt:=top 4
abbrev HC:Stmt:=top 5
abbrev CL:Stmt:=top 6
abbrev CM:Stmt:=top 7
abbrev Fp:Stmt:=top 8
abbrev Hl:Stmt:=top 9
abbrev GX:Stmt:=top 21
abbrev Fg:Stmt:=top 22
abbrev EZ:Stmt:=top 23
abbrev HP:Stmt:=top 24
abbrev Ht:Stmt:=top 25
abbrev EU:Stmt:=top 26
abbrev Hy:Stmt:=top 27
abbrev Fi:Stmt:=top 28
abbrev HQ:Stmt:=top 29
abbrev Fj:Stmt:=top 30
abbrev GY:Stmt:=top 38
abbrev Hn:Stmt:=top 39
abbrev HH:Stmt:=top 40
abbrev CO:Stmt:=top 41
abbrev EW:Stmt:=top 42
abbrev E5:Stmt:=top 43
abbrev EX:Stmt:=top 44
abbrev GG:Stmt:=top 46
abbrev Fd:Stmt:=top 47
abbrev E7:Stmt:=top 48
abbrev GI:Stmt:=top 52
abbrev HA:Stmt:=top 53
abbrev HE:Stmt:=top 54
abbrev GF:Stmt:=top 55
abbrev HB:Stmt:=top 56
abbrev Hw:Stmt:=top 57
abbrev Hr:Stmt:=top 58
abbrev GQ:Stmt:=top 60
abbrev E4:Stmt:=top 61
abbrev Fl:Stmt:=top 62
abbrev Fo:Stmt:=top 63
abbrev Fq:Stmt:=top 64
abbrev EV:Stmt:=top 65
abbrev GP:Stmt:=top 66
abbrev Hj:Stmt:=top 68
abbrev Fc:Stmt:=top 69
abbrev Gz:Stmt:=top 70
abbrev Fn:Stmt:=top 72
abbrev G0:Stmt:=top 73
abbrev EY:Stmt:=top 74
abbrev Fh:Stmt:=top 75
abbrev HG:Stmt:=top 77
abbrev E8:Stmt:=top 78
abbrev GO:Stmt:=top 79
abbrev Fb:Stmt:=top 81
abbrev Hz:Stmt:=top 82
abbrev E6:Stmt:=top 83
abbrev Hk:Stmt:=top 84
abbrev HM:Stmt:=top 85
abbrev HJ:Stmt:=top 87
abbrev HF:Stmt:=top 88
abbrev GC:Stmt:=top 90
abbrev GU:Stmt:=top 91
abbrev Gx:Stmt:=top 92
abbrev uf:Stmt:=top 93
abbrev ye:Stmt:=top 94
abbrev v9:Stmt:=top 95
abbrev GZ:Stmt:=top 96
abbrev Fe:Stmt:=top 97
abbrev HD:Stmt:=top 98
abbrev Fm:Stmt:=top 99
abbrev Bv:Stmt:=top 100
abbrev Hs:Stmt:=top 101
abbrev yd:Stmt:=top 102
abbrev E9:Stmt:=top 103
abbrev GV:Stmt:=top 104
abbrev Hu:Stmt:=top 105
abbrev Ho:Stmt:=top 106
abbrev Hv:Stmt:=top 107
abbrev Gy:Stmt:=top 108
abbrev HI:Stmt:=top 109
abbrev Ff:Stmt:=top 110
abbrev E3:Stmt:=top 111
abbrev CK:Stmt:=top 112
abbrev wa:Stmt:=inClass (top 14) 0
abbrev wb:Stmt:=inClass (top 18) 0
abbrev rP:Stmt:=inClass (top 37) 0
abbrev wh:Stmt:=inClass (top 37) 1
abbrev wc:Stmt:=inClass (top 37) 2
abbrev wg:Stmt:=inClass (top 37) 3
abbrev eC:List Str:=["NoKind","Endless","NoPlace","NoRule","NoNumber"]
abbrev eN:List Str:=["NoPlace","NoBook","NoKind","NoRule","NoNumber","TooGreat","Endless","NoDrop"]
abbrev eK:List Str:=["NoKind","Endless"]
def zk0:He.DefD:=⟨(dN,none),dN,dN,defArgs HK,defBody HK,defScope HK,[],[]⟩
def zj5:He.DefD:=⟨(gB,none),gB,gB,defArgs HR,defBody HR,defScope HR,[],[]⟩
def zk4:He.DefD:=⟨(iz,none),iz,iz,defArgs HC,defBody HC,defScope HC,[],[]⟩
def zjq:He.DefD:=⟨(eW,none),eW,eW,defArgs CL,defBody CL,defScope CL,[],[]⟩
def zjs:He.DefD:=⟨(gW,none),gW,gW,defArgs CM,defBody CM,defScope CM,[],[]⟩
def zjt:He.DefD:=⟨(j9,none),j9,j9,defArgs Fp,defBody Fp,defScope Fp,[],[]⟩
def zjm:He.DefD:=⟨(nJ,none),nJ,nJ,defArgs Hl,defBody Hl,defScope Hl,[],[]⟩
def zmo:He.DefD:=⟨(gA,none),gA,gA,defArgs GX,defBody GX,defScope GX,[],[]⟩
def zm5:He.DefD:=⟨(dO,none),dO,dO,defArgs Fg,defBody Fg,defScope Fg,[],[]⟩
def zmq:He.DefD:=⟨(a7,none),a7,a7,defArgs EZ,defBody EZ,defScope EZ,[],[]⟩
def zk8:He.DefD:=⟨(fX,none),fX,fX,defArgs HP,defBody HP,defScope HP,[],[]⟩
def zka:He.DefD:=⟨(j6,none),j6,j6,defArgs Ht,defBody Ht,defScope Ht,[],[]⟩
def zkb:He.DefD:=⟨(uP,none),uP,uP,defArgs EU,defBody EU,defScope EU,[],[]⟩
def zkn:He.DefD:=⟨(bf,none),bf,bf,defArgs Hy,defBody Hy,defScope Hy,[],[]⟩
def zjy:He.DefD:=⟨(cB,none),cB,cB,defArgs Fi,defBody Fi,defScope Fi,[],[]⟩
def zjw:He.DefD:=⟨(iy,none),iy,iy,defArgs HQ,defBody HQ,defScope HQ,[],[]⟩
def zm2:He.DefD:=⟨(gD,none),gD,gD,defArgs Fj,defBody Fj,defScope Fj,[],[]⟩
def zlj:He.DefD:=⟨(bw,none),bw,bw,defArgs GY,defBody GY,defScope GY,[],[]⟩
def zln:He.DefD:=⟨(cN,none),cN,cN,defArgs Hn,defBody Hn,defScope Hn,[],[]⟩
def zlt:He.DefD:=⟨(d3,none),d3,d3,defArgs HH,defBody HH,defScope HH,[],[]⟩
def zkp:He.DefD:=⟨(gE,none),gE,gE,defArgs CO,defBody CO,defScope CO,[],[]⟩
def zm6:He.DefD:=⟨(kg,none),kg,kg,defArgs EW,defBody EW,defScope EW,[],[]⟩
def zk3:He.DefD:=⟨(kc,none),kc,kc,defArgs E5,defBody E5,defScope E5,[],[]⟩
def zll:He.DefD:=⟨(fe,none),fe,fe,defArgs EX,defBody EX,defScope EX,[],[]⟩
def zm3:He.DefD:=⟨(ir,none),ir,ir,defArgs GG,defBody GG,defScope GG,[],[]⟩
def zk2:He.DefD:=⟨(gy,none),gy,gy,defArgs Fd,defBody Fd,defScope Fd,[],[]⟩
def zjx:He.DefD:=⟨(cj,none),cj,cj,defArgs E7,defBody E7,defScope E7,[],[]⟩
def zkj:He.DefD:=⟨(nK,none),nK,nK,defArgs GI,defBody GI,defScope GI,[],[]⟩
def zk1:He.DefD:=⟨(j7,none),j7,j7,defArgs HA,defBody HA,defScope HA,[],[]⟩
def zmn:He.DefD:=⟨(c9,none),c9,c9,defArgs HE,defBody HE,defScope HE,[],[]⟩
def zjl:He.DefD:=⟨(d4,none),d4,d4,defArgs GF,defBody GF,defScope GF,[],[]⟩
def zlm:He.DefD:=⟨(uS,none),uS,uS,defArgs HB,defBody HB,defScope HB,[],[]⟩
def zm4:He.DefD:=⟨(c7,none),c7,c7,defArgs Hw,defBody Hw,defScope Hw,[],[]⟩
def zms:He.DefD:=⟨(gV,none),gV,gV,defArgs Hr,defBody Hr,defScope Hr,[],[]⟩
def zky:He.DefD:=⟨(iu,none),iu,iu,defArgs GQ,defBody GQ,defScope GQ,[],[]⟩
def zkx:He.DefD:=⟨(iw,none),iw,iw,defArgs E4,defBody E4,defScope E4,[],[]⟩
def zjh:He.DefD:=⟨(uQ,none),uQ,uQ,defArgs Fl,defBody Fl,defScope Fl,[],[]⟩
def zk7:He.DefD:=⟨(cC,none),cC,cC,defArgs Fo,defBody Fo,defScope Fo,[],[]⟩
def zjf:He.DefD:=⟨(gz,none),gz,gz,defArgs Fq,defBody Fq,defScope Fq,[],[]⟩
def zj4:He.DefD:=⟨(cM,none),cM,cM,defArgs EV,defBody EV,defScope EV,[],[]⟩
def zju:He.DefD:=⟨(fj,none),fj,fj,defArgs GP,defBody GP,defScope GP,[],[]⟩
def zla:He.DefD:=⟨(aN,none),aN,aN,defArgs Hj,defBody Hj,defScope Hj,[],[]⟩
def zkz:He.DefD:=⟨(fh,none),fh,fh,defArgs Fc,defBody Fc,defScope Fc,[],[]⟩
def zji:He.DefD:=⟨(d5,none),d5,d5,defArgs Gz,defBody Gz,defScope Gz,[],[]⟩
def zjg:He.DefD:=⟨(iZ,none),iZ,iZ,defArgs Fn,defBody Fn,defScope Fn,[],[]⟩
def zkl:He.DefD:=⟨(CI,none),CI,CI,defArgs G0,defBody G0,defScope G0,[],[]⟩
def zlb:He.DefD:=⟨(cE,none),cE,cE,defArgs EY,defBody EY,defScope EY,[],[]⟩
def zlv:He.DefD:=⟨(j8,none),j8,j8,defArgs Fh,defBody Fh,defScope Fh,[],[]⟩
def zmm:He.DefD:=⟨(pC,none),pC,pC,defArgs HG,defBody HG,defScope HG,[],[]⟩
def zmf:He.DefD:=⟨(uU,none),uU,uU,defArgs E8,defBody E8,defScope E8,[],[]⟩
def zjb:He.DefD:=⟨(nI,none),nI,nI,defArgs GO,defBody GO,defScope GO,[],[]⟩
def zlr:He.DefD:=⟨(gu,none),gu,gu,defArgs Fb,defBody Fb,defScope Fb,[],[]⟩
def zjc:He.DefD:=⟨(uT,none),uT,uT,defArgs Hz,defBody Hz,defScope Hz,[],[]⟩
def zmp:He.DefD:=⟨(cU,none),cU,cU,defArgs E6,defBody E6,defScope E6,[],[]⟩
def zlq:He.DefD:=⟨(b7,none),b7,b7,defArgs Hk,defBody Hk,defScope Hk,[],[]⟩
def zl8:He.DefD:=⟨(uR,none),uR,uR,defArgs HM,defBody HM,defScope HM,[],[]⟩
def zl1:He.DefD:=⟨(pF,none),pF,pF,defArgs HJ,defBody HJ,defScope HJ,[],[]⟩
def zly:He.DefD:=⟨(dP,none),dP,dP,defArgs HF,defBody HF,defScope HF,[],[]⟩
def zmc:He.DefD:=⟨(iA,none),iA,iA,defArgs GC,defBody GC,defScope GC,[],[]⟩
def zme:He.DefD:=⟨(bU,none),bU,bU,defArgs GU,defBody GU,defScope GU,[],[]⟩
def zmk:He.DefD:=⟨(bL,none),bL,bL,defArgs Gx,defBody Gx,defScope Gx,[],[]⟩
def Uh:He.DefD:=⟨(cV,none),cV,cV,defArgs uf,defBody uf,defScope uf,[],[]⟩
def Ug:He.DefD:=⟨(eX,none),eX,eX,defArgs ye,defBody ye,defScope ye,[],[]⟩
def Ui:He.DefD:=⟨(ft,none),ft,ft,defArgs v9,defBody v9,defScope v9,[],[]⟩
def zkv:He.DefD:=⟨(fY,none),fY,fY,defArgs GZ,defBody GZ,defScope GZ,[],[]⟩
def zml:He.DefD:=⟨(cw,none),cw,cw,defArgs Fe,defBody Fe,defScope Fe,[],[]⟩
def zkt:He.DefD:=⟨(bD,none),bD,bD,defArgs HD,defBody HD,defScope HD,[],[]⟩
def zk6:He.DefD:=⟨(cQ,none),cQ,cQ,defArgs Fm,defBody Fm,defScope Fm,[],[]⟩
def zmg:He.DefD:=⟨(fm,none),fm,fm,defArgs Bv,defBody Bv,defScope Bv,[],[]⟩
def zk5:He.DefD:=⟨(aW,none),aW,aW,defArgs Hs,defBody Hs,defScope Hs,[],[]⟩
def Ue:He.DefD:=⟨(b6,none),b6,b6,defArgs yd,defBody yd,defScope yd,[],[]⟩
def zmb:He.DefD:=⟨(fq,none),fq,fq,defArgs E9,defBody E9,defScope E9,[],[]⟩
def zke:He.DefD:=⟨(bP,none),bP,bP,defArgs GV,defBody GV,defScope GV,[],[]⟩
def zls:He.DefD:=⟨(dj,none),dj,dj,defArgs Hu,defBody Hu,defScope Hu,[],[]⟩
def zkw:He.DefD:=⟨(gF,none),gF,gF,defArgs Ho,defBody Ho,defScope Ho,[],[]⟩
def zl2:He.DefD:=⟨(cS,none),cS,cS,defArgs Hv,defBody Hv,defScope Hv,[],[]⟩
def zmj:He.DefD:=⟨(a5,none),a5,a5,defArgs Gy,defBody Gy,defScope Gy,[],[]⟩
def zmd:He.DefD:=⟨(cF,none),cF,cF,defArgs HI,defBody HI,defScope HI,[],[]⟩
def zkc:He.DefD:=⟨(df,none),df,df,defArgs Ff,defBody Ff,defScope Ff,[],[]⟩
def zm1:He.DefD:=⟨(dk,none),dk,dk,defArgs E3,defBody E3,defScope E3,[],[]⟩
def U8:He.DefD:=⟨("law",none),"law","law",defArgs CK,defBody CK,defScope CK,[],[]⟩
def Mr:He.DefD:=⟨("NoKind",some "__init__"),"__init__","NoKind.__init__",defArgs wa,defBody wa,defScope wa,[],[]⟩
def Ms:He.DefD:=⟨("Endless",some "__init__"),"__init__","Endless.__init__",defArgs wb,defBody wb,defScope wb,[],[]⟩
def Mx:He.DefD:=⟨("Book",some "__init__"),"__init__","Book.__init__",defArgs rP,defBody rP,defScope rP,[],[]⟩
def Mw:He.DefD:=⟨("Book",some eF),eF,"Book.names",defArgs wh,defBody wh,defScope wh,[],[]⟩
def Mu:He.DefD:=⟨("Book",some "spreads"),"spreads","Book.spreads",defArgs wc,defBody wc,defScope wc,[],[]⟩
def Mv:He.DefD:=⟨("Book",some "rules"),"rules","Book.rules",defArgs wg,defBody wg,defScope wg,[],[]⟩
def fn:List He.DefD:=[zk0,zj5,zk4,zjq,zjs,zjt,zjm,zmo,zm5,zmq,zk8,zka,zkb,zkn,zjy,zjw,zm2,zlj,zln,zlt,zkp,zm6,zk3,zll,zm3,zk2,zjx,zkj,zk1,zmn,zjl,zlm,zm4,zms,zky,zkx,zjh,zk7,zjf,zj4,zju,zla,zkz,zji,zjg,zkl,zlb,zlv,zmm,zmf,zjb,zlr,zjc,zmp,zlq,zl8,zl1,zly,zmc,zme,zmk,Uh,Ug,Ui,zkv,zml,zkt,zk6,zmg,zk5,Ue,zmb,zke,zls,zkw,zl2,zmj,zmd,zkc,zm1,U8,Mr,Ms,Mx,Mw,Mu,Mv]
def ZP:List He.Fa:=[.glo dN,.glo gB,.glo iz,.glo eW,.glo gW,.glo j9,.glo nJ,.glo gA,.glo dO,.glo a7,.glo fX,.glo j6,.glo uP,.glo bf,.glo cB,.glo iy,.glo gD,.glo bw,.glo cN,.glo d3,.glo gE,.glo kg,.glo kc,.glo fe,.glo ir,.glo gy,.glo cj,.glo nK,.glo j7,.glo c9,.glo d4,.glo uS,.glo c7,.glo gV,.glo iu,.glo iw,.glo uQ,.glo cC,.glo gz,.glo cM,.glo fj,.glo aN,.glo fh,.glo d5,.glo iZ,.glo CI,.glo cE,.glo j8,.glo pC,.glo uU,.glo nI,.glo gu,.glo uT,.glo cU,.glo b7,.glo uR,.glo pF,.glo dP,.glo iA,.glo bU,.glo bL,.glo cV,.glo eX,.glo ft,.glo fY,.glo cw,.glo bD,.glo cQ,.glo fm,.glo aW]
def ZO:List He.Fa:=[.glo b6,.glo fq,.glo bP,.glo dj,.glo gF,.glo cS,.glo a5,.glo cF,.glo df,.glo dk,.glo "law",.free "len",.free "isinstance",.free "int",.free "bool",.free "str",.free "tuple",.free "list",.free "all",.free "zip",.free "sum",.free "max",.free "range",.free "enumerate",.free "abs",.free "sorted",.free "min",.free "reversed",.free "any",.free "set",.free "dict",.free "repr",.glo "FellError",.free "ValueError",.glo "NoPlace",.glo "NoBook",.glo "NoKind",.glo "NoRule",.glo "NoNumber",.glo "TooGreat",.glo "Endless",.glo "NoDrop",.noat "NoKind" "kind",.noat "Endless" "kind",.str "LETTERS" "abcdefghijklmnopqrstuvwxyz",.int "LONGEST_NAME" (8),.int "MOST_KINDS" (8),.int "MOST_RULES" (4),.int "MOST_RULE_PARTS" (4),.int "MOST_MANY" (1000000000),.int "MOST_PARTS_STANDING" (2000),.int "MOST_DEEP_STANDING" (60),.glo "NO_GROVES",.exc "NoBook",.exc "NoDrop",.exc "NoNumber",.exc "NoPlace",.exc "NoRule",.exc "TooGreat",.meth "NoKind" "__init__",.meth "Endless" "__init__",.glo "Book",.cls "Book",.noat "Book" "spread_by_name",.noat "Book" "rows_by_name",.mkr "Book",.meth "Book" eF,.meth "Book" "spreads",.meth "Book" "rules"]
def fa:List He.Fa:=ZP++ZO
def Bm (K:Qn):Bool:=Pj K (He.ga K "NoKind")&&(Pj K (He.ga K "Endless")&&(no2B K (He.ga K "NO_GROVES")&&(Mn K (He.ga K) eC eN)))
abbrev R:PySem.W.OpenRow:=PySem.W.OpenLaw.row PySem.Challenge.rw_felltimber_k52_papers_of_falls
def Uw:List Addr:=[3,6,4,21,28,35,40,47,52,59,69,82,94,113,125,137,149,168,180,189,194,201,208,215,220,227,232,239,244,247,283,294,301,308,313,318,323,328,335,340,345,352,359,366,373,380,387,394,401,406,411,416,421,426,433,440,447,454,459,466,471,476,483,488,495,500,507,512,519,526,533,540,547,554,561,566,573,578,585,590,597,602,607,614,621,626,633,640,647,654,661,668,673,678,683,0,20,27,34,39,46,51,58,68,81,93,112,124,136,148,167,179,188,193,200,207,214,219,226,231,238,243,245,246,282,293,300,307,312,317,322,327,334,339,344,351,358,365,372,379,386,393,400,405,410,415,420,425,432,439,446,453,458,465,470,475,482,487,494,499,506,511,518,525,532,539,546,553,560,565,572,577,584,589,596,601,606,613,620,625,632,639,646,653,660,667,672,677,682,15,16,17,18,19,22,23,24,25,26,29,30,31,32,33,36,37,38,41,42,43,44,45,48,49,50,53,54,55,56,57,67,70,80,92,110,111,123,135,147,165,166,178,183,184,185,186,187,190,191,192,195,196,197,198,199,202,203,204,205,206,209,210,211,212,213,216,217,218,221,222,223,224,225,228,229,230,233,234,235,236,237,240,241,242,259,266,273,280,281,284,285,288,289,290,291,292,295,296,297,298,299,302,303,304,305,306,309,310,311,314,315,316,319,320,321,324,325,326,329,330,331,332,333,336,337,338,341,342,343,346,347,348,349,350,353,354,355,356,357,360,361,362,363,364,367,368,369,370,371,374,375,376,377,378,381,382,383,384,385,388,389,390,391,392,395,396,397,398,399,402,403,404,407,408,409,412,413,414,417,418,419,422,423,424,427,428,429,430,431,434,435,436,437,438,441,442,443,444,445,448,449,450,451,452,455,456,457,460,461,462,463,464,467,468,469,472,473,474,477,478,479,480,481,484,485,486,489,490,491,492,493,496,497,498,501,502,503,504,505,508,509,510,513,514,515,516,517,520,521,522,523,524,527,528,529,530,531,534,535,536,537,538,541,542,543,544,545,548,549,550,551,552,555,556,557,558,559,562,563,564,567,568,569,570,571,574,575,576,579,580,581,582,583,586,587,588,591,592,593,594,595,598,599,600,603,604,605,608,609,610,611,612,615,616,617,618,619,622,623,624,627,628,629,630,631,634,635,636,637,638,641,642,643,644,645,648,649,650,651,652,655,656,657,658,659,662,663,664,665,666,669,670,671,674,675,676,679,680,681,109,164,258,265,272,279,104,105,106,107,108,159,160,161,162,163,255,256,257,260,261,262,263,264,267,268,269,270,271,274,275,276,277,278]
def Ds (as:List Addr) (fa:List He.Fa) (fn:List He.DefD) (ex:Qn->Bool) (g:Addr->Option Obj):NG:=(He.obsD fa fn (He.frG g as),ex (He.frG g as))
def U3 (as:List Addr) (fa:List He.Fa) (fn:List He.DefD) (ex:Qn->Bool):PySem.W.Hook where
 α:=NG
 obs:=fun s=>Ds as fa fn ex s.heap.get?
 val:=fun _=>(He.valD fn,true)
 says:=fun _ h=>∃ K:Qn,K.In h/\He.SaysD fa fn K/\ex K=true
 of:=fun _ _ e=>⟨_,He.frG_in,congrArg (fun z:NG=>z.1) e,congrArg (fun z:NG=>z.2) e⟩
 keeps:=fun _ _ _ ⟨K,hK,c⟩ k=>⟨K,PySem.W.Frag.In.keeps hK k,c⟩
theorem zft {as:List Addr} {fa:List He.Fa} {fn:List He.DefD} {ex:Qn->Bool} {g:Addr->Option Obj} (h:∀ a,g a=s.heap.get? a):Ds as fa fn ex g=(U3 as fa fn ex).obs s:=by
 have e:g=s.heap.get?:=funext h;rw [e] <;> rfl
abbrev hk:PySem.W.Hook:=U3 Uw fa fn Bm
def ob (s:PySem.W.SharedT):NG:=Ds Uw fa fn Bm (HandSHeadRun.getT s)
theorem ob_eq (s:PySem.W.SharedT):ob s=hk.obs s.abs:=zft (HandSHeadRun.getT_eq s)
def loose:List PySem.Str:=([dN,gB,iz,eW,gW,j9,nJ,"FellError","NoPlace","NoBook","NoKind","NoRule"]:List PySem.Str)++(["NoNumber","TooGreat","Endless","NoDrop",gA,dO,a7,fX,j6,uP,bf,cB]:List PySem.Str)++([iy,gD,"Book",bw,cN,d3,gE,kg,kc,fe,ir,gy]:List PySem.Str)++([cj,nK,j7,c9,d4,uS,c7,gV,iu,iw,uQ,cC]:List PySem.Str)++([gz,cM,fj,aN,fh,d5,iZ,CI,cE,j8,pC,uU]:List PySem.Str)++([nI,gu,uT,cU,b7,uR,pF,dP,iA,bU,bL,cV]:List PySem.Str)++([eX,ft,fY,cw,bD,cQ,fm,aW,b6,fq,bP,dj]:List PySem.Str)++([gF,cS,a5,cF,df,dk,"LETTERS","LONGEST_NAME","MOST_DEEP_STANDING","MOST_KINDS","MOST_MANY","MOST_PARTS_STANDING"]:List PySem.Str)++(["MOST_RULES","MOST_RULE_PARTS","NO_GROVES"]:List PySem.Str)
def Gu (s:PySem.W.SharedT):Qn:=He.frG (HandSHeadRun.getT s) Uw
theorem Rg (w:World) (os:PySem.OsState):(HandSHeadRun.endF (HandSHeadRun.stepQ (HandSHeadRun.denQ HandSHeadRun.tabQ) R.prog w) 9000 R.prog w os).map (fun s=>HandSHeadRun.looksF R.prog (PySem.W.boot_heap w.params) s.abs)=some true:=by
 kernel_rfl
theorem Rf (w:World) (os:PySem.OsState):(HandSHeadRun.endF (HandSHeadRun.stepQ (HandSHeadRun.denQ HandSHeadRun.tabQ) R.prog w) 9000 R.prog w os).map (fun s=>HandSHeadRun.seenQ (PySem.W.view R.prog [112]) loose (importedModules R.prog.main.body) (fun s=>xlAt (PySem.W.view R.prog [112]) [] s&&recOk R.toRowW.records s) s.abs)=some (openGood (PySem.W.view R.prog [112]) loose):=by
 kernel_rfl
theorem Rc (w:World) (os:PySem.OsState):(HandSHeadRun.endF (HandSHeadRun.stepQ (HandSHeadRun.denQ HandSHeadRun.tabQ) R.prog w) 9000 R.prog w os).map (fun s=>ZP.all fun f=>f.ok (Gu s))=some true:=by
 kernel_rfl
theorem Rb (w:World) (os:PySem.OsState):(HandSHeadRun.endF (HandSHeadRun.stepQ (HandSHeadRun.denQ HandSHeadRun.tabQ) R.prog w) 9000 R.prog w os).map (fun s=>ZO.all fun f=>f.ok (Gu s))=some true:=by
 kernel_rfl
theorem Ra (w:World) (os:PySem.OsState):(HandSHeadRun.endF (HandSHeadRun.stepQ (HandSHeadRun.denQ HandSHeadRun.tabQ) R.prog w) 9000 R.prog w os).map (fun s=>fn.all fun d=>d.ok (Gu s))=some true:=by
 kernel_rfl
theorem Q9 (w:World) (os:PySem.OsState):(HandSHeadRun.endF (HandSHeadRun.stepQ (HandSHeadRun.denQ HandSHeadRun.tabQ) R.prog w) 9000 R.prog w os).map (fun s=>fn.map fun d=>He.fnW (Gu s) d.at_)=some (fn.map He.DefD.val):=by
 kernel_rfl
theorem Q8 (w:World) (os:PySem.OsState):(HandSHeadRun.endF (HandSHeadRun.stepQ (HandSHeadRun.denQ HandSHeadRun.tabQ) R.prog w) 9000 R.prog w os).map (fun s=>Bm (Gu s))=some true:=by
 kernel_rfl
theorem RR {σ α β γ:Type} {o:Option σ} {A:σ->α} {B:σ->β} {C:σ->γ} {a:α} {b:β} {c:γ} (h1:o.map A=some a) (h2:o.map B=some b) (h3:o.map C=some c):o.map (fun s=>(A s,B s,C s))=some (a,b,c):=by
 cases o with
 | none=>cases h1
 | some s=>exact congrArg some (Prod.ext (Yd h1) (Prod.ext (Yd h2) (Yd h3)))
theorem RQ {σ:Type} {o:Option σ} {f1 f2:List He.Fa} {gn:List He.DefD} {ex:Qn->Bool} (K:σ->Qn) (h1:o.map (fun s=>f1.all fun f=>f.ok (K s))=some true) (h2:o.map (fun s=>f2.all fun f=>f.ok (K s))=some true) (h3:o.map (fun s=>gn.all fun d=>d.ok (K s))=some true) (h4:o.map (fun s=>gn.map fun d=>He.fnW (K s) d.at_)=some (gn.map He.DefD.val)) (h5:o.map (fun s=>ex (K s))=some true):o.map (fun s=>(He.obsD (f1++f2) gn (K s),ex (K s)))=some (He.valD gn,true):=by
 cases o with
 | none=>cases h1
 | some s =>
  have e1:(f1.all fun f=>f.ok (K s))=true:=Yd h1;have e2:(f2.all fun f=>f.ok (K s))=true:=Yd h2;have e3:(gn.all fun d=>d.ok (K s))=true:=Yd h3;have e4:(gn.map fun d=>He.fnW (K s) d.at_)=gn.map He.DefD.val:=Yd h4;have e5:ex (K s)=true:=Yd h5;refine congrArg some (Prod.ext (Prod.ext ?_ e4) e5);show (((f1++f2).all fun f=>f.ok (K s))&&gn.all fun d=>d.ok (K s))=true;rw [List.all_append,e1,e2,e3]; rfl
theorem run (w:World):HandSHeadRun.RunEq R (PySem.W.view R.prog [112]) hk ob 9000 loose w:=by
 intro os;exact RR (Rg w os) (Rf w os) (RQ Gu (Rc w os) (Rb w os) (Ra w os) (Q9 w os) (Q8 w os))
theorem fS {N P:List Str} {s:Scope} (a:s.kind=.function:=by exact rfl) (b:s.isCoroutine=false:=by exact rfl) (c:s.isGenerator=false:=by exact rfl) (d:N.Nodup:=by decide +kernel) (e:N.take P.length=P:=by exact rfl) (f:∀ x,x ∈ P->s.names.lookup x=some .local\/s.names.lookup x=some .cell:=by decide +kernel) (g:∀ y,y ∈ s.names->y.2≠.free:=by decide +kernel):FnScope N P s:=⟨a,b,c,d,e,f,g⟩
end
section
variable {P:Program} {w:World} {K:Qn} {mg:Str->Option Value} {base:Heap} {f:Addr} {fd:FuncData} {ps:List Addr}
theorem zgh:FnScope [aA] [aA] (defScope HK):=fS
theorem zg2 (B:BI mg) (F:Fun K dN dN HK f fd):FnOk P w K mg base CX0 1 f fd [aA] (HX K):=by
 refine F.ok zgh (fun vs H Q E h=>?_) (fun _ A _ _ H vs Q E hr h=>?_)
 ·obtain ⟨v,n,b1,b2,rfl,_⟩:=h
  rfl
 obtain ⟨v,n,b1,b2,rfl,ty,k1,k2,q⟩:=h;refine ⟨_,Qe (Qj (pe_and (tF B (pv 0) B.int boot_int) (pe_one (pe_not (tF B (pv 0) B.bool boot_bool))))),?_⟩;refine ⟨_,Ja,_,_,n,b1,Ja,ty,k1,b1,Ja,?_⟩;cases b1 with
 | false=>exact iteF q
 | true =>
  refine iteT ⟨_,Ja,_,_,n,b2,Ja,ty,k2 rfl,b2,Ja,?_⟩;exact q
end
section
variable {P:Program} {w:World} {K:Qn} {mg:Str->Option Value} {base:Heap} {f:Addr} {fd:FuncData} {ps:List Addr}
theorem zi7:FnScope [aA] [aA] (defScope HR):=fS
theorem zhi {ps:List Addr} (B:BI mg) (G:Got P w K mg base dN [aA] 1 (HX K)) (F:Fun K gB gB HR f fd):FnOk P w K mg base CX0 2 f fd [aA] (NU K ps):=by
 refine F.ok zi7 (fun vs H Q E h=>?_) (fun _ A _ _ H vs Q E hr h=>?_)
 ·obtain ⟨v,d,rfl,_⟩:=h
  rfl
 obtain ⟨v,d,rfl,th,q⟩:=h;refine ⟨_,Qe (Qj (pe_and (aT G hr rfl (Qa (pv 0) Qb)) (pe_one (pe_cmpR op_ge (pv 0) Qg (nomark _))))),?_⟩;obtain ⟨n,b1,b2,ty,k1,k2,y1,y2⟩:=th.whole;refine ⟨_,Ja,v,n,b1,b2,Ja,ty,k1,k2,b1&&!b2,Ja,?_⟩;cases e:(b1&&!b2) with
 | false =>
  refine iteF ?_;rw [y2 e] at q;exact q
 | true =>
  obtain ⟨i,rfl,rfl⟩:=y1 e;exact iteT ⟨_,Ja,_,_,Ja,Ja,q⟩
end
section
variable {P:Program} {w:World} {K:Qn} {mg:Str->Option Value} {base:Heap} {f:Addr} {fd:FuncData}
theorem ziw:FnScope [aA] [aA] (defScope HC):=fS
theorem zit (B:BI mg) (L:∃ t,mg "LETTERS"=some (.str tw t)) (N:∃ t,mg "LONGEST_NAME"=some (.int 8 t)) (G:Got P w K mg base nJ ["text",Ag,"signs"] 1 (VP K)) (F:Fun K iz iz HC f fd):FnOk P w K mg base CX0 2 f fd [aA] (Pr K):=by
 refine F.ok ziw (fun vs H Q E h=>?_) (fun _ A _ _ H vs Q E hr h=>?_)
 ·obtain ⟨v,d,rfl,_⟩:=h
  rfl
 obtain ⟨v,d,rfl,th,q⟩:=h;obtain ⟨tl,hL⟩:=L;obtain ⟨tn,hN⟩:=N;refine ⟨_,Qc (Qr (PW.pt (Kk (Qp (Qo (tF B (pv 0) B.str boot_str))) (pw_or1 (Qp (pt_chain op_le op_le Qg (Qs call_len_str rfl B.len PySem.boot_len (Qa (pv 0) Qb)) (pe_glob (v:=.int 8) rfl hN ⟨_,Ja⟩)))))) (Qe (Qj pe_bl)) pss_nil)
  (Qe (Qj (pe_cmpR op_eq (aT G hr rfl (Qa (pv 0) (Qa Qg (Qa (pe_glob (v:=.str tw) rfl hL ⟨_,rfl⟩) Qb)))) (pv 0) (nomark _)))),?_⟩
 obtain ⟨n1,b,ty,kb,y1,y2⟩:=th.txt;refine ⟨_,Ja,_,_,n1,b,Ja,ty,kb,b,Ja,?_⟩;cases b with
 | false =>
  refine iteT (iteT ?_);have e:vV d=false:=by
   cases d with
   | str z=>exact absurd rfl (y2 rfl z)
   | _=>simp [vV]
  have:=q H SB.refl;rw [e] at this;exact this
 | true =>
 refine iteF ?_;obtain ⟨z,rfl,rfl,hz⟩:=y1 rfl;have F6:z.length<=sizeLine:=by have:=sizeLine_eq; omega
 refine ⟨_,Ja,z,Ja,F6,_,_,Ja,Ja,_,Ja,?_⟩;by_cases h1:1<=z.length
 ·rw [show decide ((1:Int)<=(z.length:Int))=true from Ya (by omega)];refine iteT ⟨_,_,Ja,Ja,_,Ja,?_⟩;by_cases h8:z.length<=8
  ·rw [show decide ((z.length:Int)<=8)=true from Ya (by omega)];refine iteF ?_;refine ⟨_,Ja,z,tw,0,Ja,by omega,Nat.zero_le _,fun e _ he yM uD=>?_⟩;refine ⟨_,Ja,Ja,?_⟩;have:=q H SB.refl;rw [<- zde h1 h8 he yM uD] at this;exact this
  ·rw [show decide ((z.length:Int)<=8)=false from Qz (by omega)];have:=q H SB.refl;rw [WB fun h=>h8 h.2] at this;exact iteT this
 ·rw [show decide ((1:Int)<=(z.length:Int))=false from Qz (by omega)];have:=q H SB.refl;rw [WB fun h=>h1 h.1] at this;exact iteF ⟨_,Ja,iteT this⟩
end
section
variable {P:Program} {w:World} {K:Qn} {mg:Str->Option Value} {base:Heap} {f:Addr} {fd:FuncData} {ps:List Addr}
theorem p7:FnScope WQ [cA] (defScope CL):=fS
theorem zh5 (B:BI mg) (F:Fun K eW eW CL f fd):FnOk P w K mg base CX0 1 f fd [cA] (Wt K):=by
 refine F.ok p7 (fun vs H Q E h=>?_) (fun uM A _ s H vs Q E hr h=>?_)
 ·obtain ⟨v,n,b1,rfl,_⟩:=h
  rfl
 obtain ⟨a,xs,ds,rfl,hS,Tq,hok,oR,hz,q⟩:=h;have hu:A.units+200 < cLine:=by have:=hr.un; show A.units+200 < cLine; have h3:(A.deeper (envOfC eW (defScope CL) s.heap.objs.size f uM)).units=A.units+3:=rfl; omega
 refine ⟨_,Qe (Qj (Qs (cr_all rfl) rfl B.all boot_all (Qa
  (pe_lc (own:=[("low",1),("high",2)]) (g:=gTup K 2 (gCons (gName 1) (gCons (gName 2) gNil))) (tt:=tYes) (te:=tOp (IU K) (tVar 1) (tVar 2)) rfl p7.nd
   (pi_zip rfl B.zip (Qa (pv 0) (Qa (pe_slice sl_list (pv 0) (po_some Qg) po_none) Qb)))
   (blkOk_by (N:=WQ) (sc:=defScope CL) (by decide +kernel))
   (fun _ _ _ _ _=>pg_tup rfl (Qi (pg_name (i:=1) p7.nd rfl (.inl rfl)) (Qi (pg_name (i:=2) p7.nd rfl (.inl rfl)) pgs_nil)))
   (fun _ _ _ _ _=>pts_nil)
   (fun _ _ _ _ _=>pe_cmpR (VB (by have:=hu; show A.units+3+100 < cLine; omega)) (pv 1) (pv 2) (nomark _))) Qb))),?_⟩
 refine ⟨_,Ja,_,Ja,1,Ja,a,xs,Ja,hS,fun p hp=>?_⟩;rw [EB];have e1:SB [] H (upd H p (.lst (xs.drop 1))):=SB.new hp _;refine ⟨a,p,xs,xs.drop 1,Ja,e1.fO aP hS,SqL.of Qt,fun D hD=>?_⟩;have hpD:p ≠ D:=fun z=>by subst z; rw [Qt] at hD; cases hD
 have dl:ds.length=xs.length:=(DpAll.length Tq).symm;refine lc_it (walk_zip (n:=min xs.length (xs.drop 1).length) rfl) (fun i H2=>SB [D] (upd H p (.lst (xs.drop 1))) H2/\H2 D=some (.lst (((ltsD ds).take i).map V.bl))) ⟨SB.new hD _,Qt⟩ (fun i H2 hi h2=>?_) (fun i x H2 H' hi h2 y=>?_) (fun H2 h2=>?_)
 ·obtain ⟨h2,h3⟩:=h2;have h4:=h2.drop hD;exact ⟨(e1.trans h4).fO aP hS,h4.fO aP (SqL.of Qt)⟩
 ·obtain ⟨h2,h3⟩:=h2;have h4:=e1.trans (h2.drop hD);obtain ⟨T,x1,y1,rfl,hT,rfl,ex,ey⟩:=y;have ey:(xs.drop 1)[i]?=some y1:=ey;rw [List.getElem?_drop,Nat.add_comm] at ey;obtain ⟨d,ed,hd⟩:=DpAll.get Tq ex;obtain ⟨d',ZS,Af⟩:=DpAll.get (i:=i+1) Tq ey;have e5:SB [] H (upd H2 T (.tup [x1,y1])):=h4.trans (SB.new hT _);have m1:=Qu ed;have m2:=Qu ZS;have Zp:D ≠ T:=fun z=>by subst z; rw [h3] at hT; cases hT
  refine ⟨T,_,Ja,SqT.of Qt,Ja,_,_,Ja,_,_,Ja,Ja,Ja,?_⟩;refine ⟨_,Ja,_,Ja,d,d',cI e5 _ _ (hok d m1).1 hd,cI e5 _ _ (hok d' m2).1 Af,oR d m1 d' m2,(hok d m1).2.1,(hok d m1).2.2,_,by rw [upd_ne Zp]; exact h3,?_,?_⟩
  ·have:=QM ds;rw [Ye,Kx];exact vW (by omega)
  ·refine ⟨(h2.trans (SB.new hT _)).trans (SB.set (by rw [upd_ne Zp]; exact h3) (by simp) _),?_⟩;rw [Qt,Yg,Wv ds i d d' ed ZS];simp
 ·obtain ⟨h2,h3⟩:=h2;have h4:=e1.trans (h2.drop hD);have e6:(ltsD ds).take (min xs.length (xs.drop 1).length)=ltsD ds:=by
   apply List.take_of_length_le;rw [QM,List.length_drop];omega
  rw [e6] at h3;exact ⟨D,_,Ja,SqL.of h3,q _ h4⟩
end
section
variable {P:Program} {w:World} {K:Qn} {mg:Str->Option Value} {base:Heap} {f:Addr} {fd:FuncData}
abbrev zbe:List Str:=[eE,"row",aA,a9]
theorem fP:FnScope zbe [eE] (defScope CM):=fS
theorem za4 {γ:Type} [DecidableEq γ] {enc:γ->PyData} (DX:∀ g,noList (enc g)=true) (heq:∀ g h,PyData.eqv (enc g) (enc h)=decide (g=h)) (B:BI mg) (F:Fun K gW gW CM f fd):FnOk P w K mg base CX0 1 f fd [eE] (Wn K enc):=by
 refine F.ok fP (fun vs H Q E h=>?_) (fun _ A _ _ H vs Q E hr h=>?_)
 ·obtain ⟨a,xs,bs,rfl,_⟩:=h
  rfl
 obtain ⟨a,xs,bs,rfl,hs,hb,hl,Jx,q⟩:=h;have bA:=bt hr;refine ⟨_,Qc (ps_set (i:=1) fP.nd rfl (.inl rfl) (pe_lst Qb))
  (Qc (ps_for PassesOwn.never rfl (pi_list (pv 0)) (pg_tup rfl (Qi (pg_name (i:=2) fP.nd rfl (.inl rfl)) (Qi (pg_name (i:=3) fP.nd rfl (.inl rfl)) pgs_nil)))
   (Qe (Qr (PW.pt (Kl (pt_truth (pv 1) (by intro _; rfl)) (pw_and1 (pt_cmpR (op_eqD (ig hr)) (Qm Ql (Qm ix_list (pv 1) (pe_un un_neg Qg) (fun _ _=>rfl)) Qg (fun _ _=>rfl)) (pv 2) (nomark _)))))
    (Qe (ps_asg (Ka (Qa (pv 2) (Qa (pe_op Ko (Qm Ql (Qm ix_list (pv 1) (pe_un un_neg Qg) (fun _ _=>rfl)) Qg (fun _ _=>rfl)) (pv 3)) Qb))) (pg_sub (pv 1) (pe_un un_neg Qg) set_list)))
    (Qe (Kf (Kn Ki PySem.F.slot_list_append PySem.F.type_list_append mt_append (pv 1) (Qa (Ka (Qa (pv 2) (Qa (pv 3) Qb))) Qb)))))))
  (Qe (Qj (pe_callTy call_tuple_of rfl B.tuple boot_tuple (Qa (pv 1) Qb))))),?_⟩
 refine ⟨(Z0),fun D hD=>?_⟩;have t0:=Jb hD (.lst []);refine ⟨_,Ja,a,Ja,⟨xs,t0.fO aP hs⟩,?_⟩;have xl:=hb.length;refine for_list (K:=K) (a:=a) (xs:=xs) (fun i σ H2=>SB [D] H H2/\∃ acc o2 o3,σ=[some (.ref a),some (.ref D),o2,o3]/\H2 D=some (.lst acc)/\Bears K H2 (la enc) acc (jn (bs.take i))) ⟨SB.new hD _,[],none,none,Ja,Qt,.nil⟩ (fun i σ H2 hi h2=>(h2.1.drop hD).fO aP hs) (fun i x σ H2 hx h2=>?_) (fun σ H2 h2=>?_)
 ·obtain ⟨s2,acc,o2,o3,rfl,aV,bS⟩:=h2;have i4:=s2.drop hD;obtain ⟨p,ep,fz⟩:=hb.get hx;have pm:=Qu ep;obtain ⟨ad,ux,rfl,vn,yO⟩:=NX fz;have al:=bS.length;have jl:=Om (bs.take i);rw [Kx] at jl;have nl:=Oq DX;rw [PU bs i p ep];have qC:=cI i4 _ _ (DX _) yO;refine ⟨ad,_,Ja,i4.aL vn,Ja,_,_,Ja,_,_,Ja,Ja,?_⟩
  -- the row ahead: none,or a last one
  have app:eY (jn (bs.take i)) p=jn (bs.take i)++[p]->tDrop (tBM K "list" rAppend (tVar 1) (tCons (tTup (tCons (tVar 2) (tCons (tVar 3) tNil))) tNil)) { nx:=fun σ H2=>SB [D] H H2/\∃ acc o2 o3,σ=[some (.ref a),some (.ref D),o2,o3]/\H2 D=some (.lst acc)/\Bears K H2 (la enc) acc (eY (jn (bs.take i)) p),rt:=Q } [some (.ref a),some (.ref D),some ux,some (.int p.2)] H2:=by
   intro e;rw [e];refine ⟨_,Ja,.inl ⟨rfl,_,SqL.of aV⟩,_,Ja,_,Ja,(dY),fun t ht=>?_⟩;have t3:=SB.new (ps:=[D]) ht (.tup [ux,.int p.2]);have bH:(upd H2 t (.tup [ux,.int p.2])) D=some (.lst acc):=by rw [upd_ne (ne_of_none aV ht)]; exact aV
   refine ⟨D,acc,_,Ja,Ja,bH,vW (by omega),?_⟩;have t4:=SB.set (ps:=[D]) bH (by simp) (.lst (acc++[.ref t]));exact ⟨(s2.trans t3).trans t4,_,_,_,Ja,Qt,Bears.append ((bS.sb t3 nl).sb t4 nl) (.cons (CQ (t4.aL (SqT.of Qt)) (cI t4 _ _ (DX _) (cI t3 _ _ (DX _) qC))) .nil)⟩
  rcases List.eq_nil_or_concat (jn (bs.take i)) with he | ⟨js,z,he⟩
  ·rw [he] at bS app;cases bS;refine ⟨_,Ja,_,.inl ⟨[],SqL.of aV,Ja⟩,iteF (iteF ?_)⟩;rw [he];exact app rfl
  ·rw [List.concat_eq_append] at he;rw [he] at bS app;rw [he];obtain ⟨us,u,rfl,Jt,hu⟩:=bS.snoc;obtain ⟨az,uz,rfl,oL,J2⟩:=NX hu;have Pf:SeqAt.shaped (enc z.1)=true:=by
    obtain ⟨q2,vq,eq2⟩:=By (bs.take i) z (by rw [he]; simp);rw [<- eq2];exact Jx q2 (List.mem_of_mem_take vq)
   refine ⟨_,Ja,_,.inl ⟨us++[.ref az],SqL.of aV,Ja⟩,?_⟩;have e0:(!(us++[V.ref az]).isEmpty)=true:=by simp
   rw [e0];refine iteT ?_;refine ⟨_,Ja,1,Ja,D,_,_,_,Ja,Ja,SqL.of aV,Ig,az,_,_,_,Ja,Ja,oL,atI_nat (j:=0) rfl,_,Ja,enc z.1,enc p.1,J2,qC,Pf,Jx p pm,_,Ja,?_⟩;rw [heq];by_cases hz:z.1=p.1
   ·rw [show decide (z.1=p.1)=true by simp [hz]];refine iteT ?_;refine ⟨_,Ja,_,Ja,1,Ja,D,_,_,_,Ja,Ja,SqL.of aV,Ig,az,_,_,_,Ja,Ja,oL,atI_nat (j:=1) rfl,_,Ja,_,_,Ja,Ja,(dY),fun t ht=>?_⟩;have t3:=SB.new (ps:=[D]) ht (.tup [ux,.int (z.2+p.2)]);have bH:(upd H2 t (.tup [ux,.int (z.2+p.2)])) D=some (.lst (us++[.ref az])):=by rw [upd_ne (ne_of_none aV ht)]; exact aV
    refine ⟨_,Ja,1,Ja,D,_,_,us.length,Ja,Ja,bH,Wj,?_⟩;rw [Wg];have t4:=SB.set (ps:=[D]) bH (by simp) (.lst (us++[.ref t]));refine ⟨(s2.trans t3).trans t4,_,_,_,Ja,Qt,?_⟩;rw [pI,if_pos hz];exact Bears.append ((Jt.sb t3 nl).sb t4 nl) (.cons (CQ (t4.aL (SqT.of Qt)) (cI t4 _ _ (DX _) (cI t3 _ _ (DX _) qC))) .nil)
   ·rw [show decide (z.1=p.1)=false by simp [hz]];refine iteF ?_;exact app (by rw [pI,if_neg hz])
 ·obtain ⟨s2,acc,o2,o3,rfl,aV,bS⟩:=h2;rw [xl,Yh] at bS;refine ⟨_,Ja,D,acc,Ja,.inl ⟨SqL.of aV,fun t ht=>?_⟩⟩;have t3:=Jb ht (.tup acc);exact q _ _ _ ((s2.drop hD).trans t3) (SqT.of Qt) (bS.sb t3 (Oq DX))
abbrev zkh:List Str:=[eE,"row",aA,a9]
theorem p6:FnScope zkh [eE] (defScope CM):=fS
theorem zhc (B:BI mg) (F:Fun K gW gW CM f fd):FnOk P w K mg base CX0 (1) f fd [eE] (Xl K Gr.aG):=by
 refine F.ok p6 (fun vs H Q E h=>?_) (fun _ A _ _ H vs Q E hr h=>?_)
 ·obtain ⟨a,xs,bs,rfl,_⟩:=h
  rfl
 obtain ⟨a,xs,bs,rfl,hs,hb,hl,Jx,q⟩:=h;have bA:=bt hr;refine ⟨_,Qc (ps_set (i:=1) p6.nd rfl (.inl rfl) (pe_lst Qb))
  (Qc (ps_for PassesOwn.never rfl (pi_list (pv 0)) (pg_tup rfl (Qi (pg_name (i:=2) p6.nd rfl (.inl rfl)) (Qi (pg_name (i:=3) p6.nd rfl (.inl rfl)) pgs_nil)))
   (Qe (Qr (PW.pt (Kl (pt_truth (pv 1) (by intro _; rfl)) (pw_and1 (pt_cmpR (zh8 (by show A.units+3+195 < cLine; omega)) (Qm Ql (Qm ix_list (pv 1) (pe_un un_neg Qg) (fun _ _=>rfl)) Qg (fun _ _=>rfl)) (pv 2) (nomark _))))) (Qe (ps_asg (Ka (Qa (pv 2) (Qa (pe_op Ko (Qm Ql (Qm ix_list (pv 1) (pe_un un_neg Qg) (fun _ _=>rfl)) Qg (fun _ _=>rfl)) (pv 3)) Qb))) (pg_sub (pv 1) (pe_un un_neg Qg) set_list))) (Qe (Kf (Kn Ki PySem.F.slot_list_append PySem.F.type_list_append mt_append (pv 1) (Qa (Ka (Qa (pv 2) (Qa (pv 3) Qb))) Qb)))))))
  (Qe (Qj (pe_callTy call_tuple_of rfl B.tuple boot_tuple (Qa (pv 1) Qb))))),?_⟩
 refine ⟨(Z0),fun D hD=>?_⟩;have t0:=Jb hD (.lst []);refine ⟨_,Ja,a,Ja,⟨xs,t0.fO aP hs⟩,?_⟩;have xl:=hb.length;refine for_list (K:=K) (a:=a) (xs:=xs) (fun i σ H2=>SB [D] H H2/\∃ acc o2 o3,σ=[some (.ref a),some (.ref D),o2,o3]/\H2 D=some (.lst acc)/\Bears K H2 (Gr.aB) acc (jn (bs.take i))) ⟨SB.new hD _,[],none,none,Ja,Qt,.nil⟩ (fun i σ H2 hi h2=>(h2.1.drop hD).fO aP hs) (fun i x σ H2 hx h2=>?_) (fun σ H2 h2=>?_)
 ·obtain ⟨s2,acc,o2,o3,rfl,aV,bS⟩:=h2;have i4:=s2.drop hD;obtain ⟨p,ep,fz⟩:=hb.get hx;have pm:=Qu ep;obtain ⟨ad,ux,rfl,vn,yO⟩:=NX fz;have al:=bS.length;have jl:=Om (bs.take i);rw [Kx] at jl;have nl:=Oq Gr.ax;rw [PU bs i p ep];have qC:=cI i4 _ _ (Gr.ax _) yO;refine ⟨ad,_,Ja,i4.aL vn,Ja,_,_,Ja,_,_,Ja,Ja,?_⟩
  -- the row ahead: none,or a last one
  have app:eY (jn (bs.take i)) p=jn (bs.take i)++[p]->tDrop (tBM K "list" rAppend (tVar 1) (tCons (tTup (tCons (tVar 2) (tCons (tVar 3) tNil))) tNil)) { nx:=fun σ H2=>SB [D] H H2/\∃ acc o2 o3,σ=[some (.ref a),some (.ref D),o2,o3]/\H2 D=some (.lst acc)/\Bears K H2 (Gr.aB) acc (eY (jn (bs.take i)) p),rt:=Q } [some (.ref a),some (.ref D),some ux,some (.int p.2)] H2:=by
   intro e;rw [e];refine ⟨_,Ja,.inl ⟨rfl,_,SqL.of aV⟩,_,Ja,_,Ja,(dY),fun t ht=>?_⟩;have t3:=SB.new (ps:=[D]) ht (.tup [ux,.int p.2]);have bH:(upd H2 t (.tup [ux,.int p.2])) D=some (.lst acc):=by rw [upd_ne (ne_of_none aV ht)]; exact aV
   refine ⟨D,acc,_,Ja,Ja,bH,Fv (by omega),?_⟩;have t4:=SB.set (ps:=[D]) bH (by simp) (.lst (acc++[.ref t]));exact ⟨(s2.trans t3).trans t4,_,_,_,Ja,Qt,Bears.append ((bS.sb t3 nl).sb t4 nl) (.cons (CQ (t4.aL (SqT.of Qt)) (cI t4 _ _ (Gr.ax _) (cI t3 _ _ (Gr.ax _) qC))) .nil)⟩
  rcases List.eq_nil_or_concat (jn (bs.take i)) with he | ⟨js,z,he⟩
  ·rw [he] at bS app;cases bS;refine ⟨_,Ja,_,.inl ⟨[],SqL.of aV,Ja⟩,iteF (iteF ?_)⟩;rw [he];exact app rfl
  ·rw [List.concat_eq_append] at he;rw [he] at bS app;rw [he];obtain ⟨us,u,rfl,Jt,hu⟩:=bS.snoc;obtain ⟨az,uz,rfl,oL,J2⟩:=NX hu;have Pf:Wd (Gr.aG z.1):=by
    obtain ⟨q2,vq,eq2⟩:=By (bs.take i) z (by rw [he]; simp);rw [<- eq2];exact Jx q2 (List.mem_of_mem_take vq)
   refine ⟨_,Ja,_,.inl ⟨us++[.ref az],SqL.of aV,Ja⟩,?_⟩;have e0:(!(us++[V.ref az]).isEmpty)=true:=by simp
   rw [e0];refine iteT ?_;refine ⟨_,Ja,1,Ja,D,_,_,_,Ja,Ja,SqL.of aV,Ig,az,_,_,_,Ja,Ja,oL,atI_nat (j:=0) rfl,_,Ja,Gr.aG z.1,Gr.aG p.1,J2,qC,Pf,Jx p pm,_,Ja,?_⟩;rw [Gr.ou];by_cases hz:z.1=p.1
   ·rw [show decide (z.1=p.1)=true by simp [hz]];refine iteT ?_;refine ⟨_,Ja,_,Ja,1,Ja,D,_,_,_,Ja,Ja,SqL.of aV,Ig,az,_,_,_,Ja,Ja,oL,atI_nat (j:=1) rfl,_,Ja,_,_,Ja,Ja,(dY),fun t ht=>?_⟩;have t3:=SB.new (ps:=[D]) ht (.tup [ux,.int (z.2+p.2)]);have bH:(upd H2 t (.tup [ux,.int (z.2+p.2)])) D=some (.lst (us++[.ref az])):=by rw [upd_ne (ne_of_none aV ht)]; exact aV
    refine ⟨_,Ja,1,Ja,D,_,_,us.length,Ja,Ja,bH,Wj,?_⟩;rw [Wg];have t4:=SB.set (ps:=[D]) bH (by simp) (.lst (us++[.ref t]));refine ⟨(s2.trans t3).trans t4,_,_,_,Ja,Qt,?_⟩;rw [pI,if_pos hz];exact Bears.append ((Jt.sb t3 nl).sb t4 nl) (.cons (CQ (t4.aL (SqT.of Qt)) (cI t4 _ _ (Gr.ax _) (cI t3 _ _ (Gr.ax _) qC))) .nil)
   ·rw [show decide (z.1=p.1)=false by simp [hz]];refine iteF ?_;exact app (by rw [pI,if_neg hz])
 ·obtain ⟨s2,acc,o2,o3,rfl,aV,bS⟩:=h2;rw [xl,Yh] at bS;refine ⟨_,Ja,D,acc,Ja,.inl ⟨SqL.of aV,fun t ht=>?_⟩⟩;have t3:=Jb ht (.tup acc);exact q _ _ _ ((s2.drop hD).trans t3) (SqT.of Qt) (bS.sb t3 (Oq Gr.ax))
abbrev WK:List Str:=[eE,aA,aI,a9]
theorem pX:FnScope WK [eE,aA] (defScope Fp):=fS
theorem zhl (B:BI mg) (F:Fun K j9 j9 Fp f fd):FnOk P w K mg base CX0 1 f fd [eE,aA] (Wf K):=by
 refine F.ok pX (fun vs H Q E h=>?_) (fun _ A _ _ H vs Q E hr h=>?_)
 ·obtain ⟨v,u,l,e,rfl,_⟩:=h
  rfl
 obtain ⟨v,u,l,e,rfl,hv,hu,hd,hd2,hp,q⟩:=h;have bA:=bt hr;refine ⟨_,Qe (Qj (Qs (cr_sum rfl) rfl B.sum boot_sum (Qa
  (pe_lc (own:=[(aI,2),(a9,3)]) (g:=gTup K 2 (gCons (gName 2) (gCons (gName 3) gNil))) (tt:=tTest (tOp (rEqD K) (tVar 2) (tVar 1))) (te:=tVar 3) rfl pX.nd (pi_tup (pv 0))
   (blkOk_by (N:=WK) (sc:=defScope Fp) (by decide +kernel))
   (fun _ _ _ _ _=>pg_tup rfl (Qi (pg_name (i:=2) pX.nd rfl (.inl rfl)) (Qi (pg_name (i:=3) pX.nd rfl (.inl rfl)) pgs_nil)))
   (fun _ _ _ _ _=>pts_one (pt_cmpR (op_eqD (ig hr)) (pv 2) (pv 1) (nomark _)))
   (fun _ _ _ _ _=>pv 3)) Qb))),?_⟩
 obtain ⟨a,xs,rfl,hs,hb⟩:=lz hv;have bl:=hb.length;have lp:=l.aF;rw [<- Lad.bB] at lp;refine ⟨_,Ja,a,Ja,⟨xs,hs⟩,fun D hD=>?_⟩;refine lc_it (walk_tup (xs:=xs)) (fun i H2=>SB [D] H H2/\H2 D=some (.lst ((((l.ps.take i).filter fun p=>decide (p.1=e)).map (·.2)).map V.int))) ⟨SB.new hD _,Qt⟩ (fun i H2 hi h2=>(h2.1.drop hD).aL hs) (fun i x H2 H' hi h2 y=>?_) (fun H2 h2=>?_)
 ·obtain ⟨s2,aV⟩:=h2;obtain ⟨rfl,ex⟩:=y;have i4:=s2.drop hD;obtain ⟨b,eb,Bc⟩:=hb.get ex;obtain ⟨ad,ux,rfl,dM,xb⟩:=nG Bc;have bd:=l.av b (Qu eb);refine ⟨ad,_,Ja,i4.aL dM,Ja,_,_,Ja,_,_,Ja,Ja,Ja,?_⟩;refine ⟨_,Ja,_,Ja,b.1.enc,e.enc,xb.sb i4,hu.sb i4,Lad.aH (by omega),Lad.aH (by omega),_,Ja,?_⟩;rw [Lad.bc];have fl:=List.length_filter_le (fun p:Lad × Int=>decide (p.1=e)) (l.ps.take i);rw [Kx] at fl;by_cases he:b.1=e
  ·rw [show decide (b.1=e)=true by simp [he]];refine iteT ?_;refine ⟨_,Ja,_,aV,?_,?_⟩
   ·rw [Ye,Ye]; exact vW (by omega)
   ·refine ⟨s2.trans (SB.set aV (by simp) _),?_⟩;rw [Qt,Yg,eb,List.filter_append];simp [he]
  ·rw [show decide (b.1=e)=false by simp [he]];refine iteF ?_;refine ⟨s2,?_⟩;rw [aV,Yg,eb,List.filter_append];simp [he]
 ·obtain ⟨s2,aV⟩:=h2;rw [bl,Yh] at aV;exact ⟨D,_,Ja,SqL.of aV,q _ (s2.drop hD)⟩
theorem tR:FnScope ["text",Ag,"signs","end"] ["text",Ag,"signs"] (defScope Hl):=fS
theorem zhx (B:BI mg) (F:Fun K nJ nJ Hl f fd):FnOk P w K mg base CX0 1 f fd ["text",Ag,"signs"] (VP K):=by
 refine F.ok tR (fun vs H Q E h=>?_) (fun _ A _ _ H vs Q E hr h=>?_)
 ·obtain ⟨z,y,k,rfl,_⟩:=h
  rfl
 obtain ⟨z,y,k,rfl,hz,hk,q⟩:=h;refine ⟨_,Qc (ps_set (i:=3) tR.nd rfl (.inl rfl) (pv 1))
  (Qc (ps_while PassesOwn.never (PW.pt (Kl (pt_cmpR op_lt (pv 3) (Qs call_len_str rfl B.len PySem.boot_len (Qa (pv 0) Qb)) (nomark _)) (pw_and1 (pt_cmpR op_in_sign (Qm ix_str (pv 0) (pv 3) (fun _ _=>rfl)) (pv 2) (by rfl)))))
   (Qe (ps_aug (i:=3) tR.nd rfl (.inl rfl) Qg ip_add)))
  (Qe (Qj (pe_slice sl_str (pv 0) (po_some (pv 1)) (po_some (pv 3)))))),?_⟩
 have F6:z.length<=sizeLine:=by have:=sizeLine_eq; omega
 have hl:=NZ z;refine ⟨_,Ja,?_⟩;refine ⟨fun mm σ H2=>∃ e:Nat,mm=z.length-e/\H2=H/\σ=[some (.str z),some (.int (k:Int)),some (.str y),some (.int (e:Int))]/\k<=e/\e<=z.length/\(∀ j c,k<=j->j < e->z.cps.toList[j]?=some c->c ∈ y.cps.toList),⟨_,k,Ja,Ja,Ja,Yc _,hk,fun j c h1 h2 _=>by omega⟩,fun mm σ H2 h2=>?_⟩;obtain ⟨e,rfl,rfl,rfl,ke,el,yM⟩:=h2;refine ⟨_,Ja,_,Ja,z,Ja,F6,_,_,Ja,Ja,_,Ja,?_⟩;have fin:(∀ c,z.cps.toList[e]?=some c->c ∉ y.cps.toList)->Q (.str (cutS z (some (k:Int)) (some (e:Int)))) H2:=fun ho=>q e ke el yM ho;by_cases dZ:e < z.length
 ·rw [show decide ((e:Int) < (z.length:Int))=true from Ya (by omega)];refine iteT ?_;obtain ⟨c,hc⟩:∃ c,z.cps.toList[e]?=some c:=⟨_,Kp (by omega)⟩;refine ⟨_,Ja,_,Ja,z,_,c,Ja,Ja,F6,Oe hc,_,Ja,c,y,Ja,Ja,_,Ja,?_⟩;by_cases hm:c ∈ y.cps.toList
  ·rw [Ya hm];refine iteT ?_;refine ⟨_,fun σ' H' z=>z,?_⟩;refine ⟨_,Ja,_,_,Ja,Ja,z.length-(e+1),by omega,e+1,Ja,Ja,Ja,by omega,by omega,fun j c' h1 h2 h3=>?_⟩;rcases Nat.lt_or_ge j e with h | h
   ·exact yM j c' h1 h h3
   ·have:j=e:=by omega
    subst this;rw [hc] at h3; cases h3; exact hm
  ·rw [Qz hm];refine iteF ?_;refine ⟨_,Ja,_,Ja,_,Ja,_,Ja,_,Ja,z,Ja,F6,fin fun c' h'=>?_⟩;rw [hc] at h'; cases h'; exact hm
 ·rw [show decide ((e:Int) < (z.length:Int))=false from Qz (by omega)];refine iteF (iteF ?_);refine ⟨_,Ja,_,Ja,_,Ja,_,Ja,_,Ja,z,Ja,F6,fin fun c' h'=>?_⟩;have:=(Kq h').1;omega
theorem zgj:FnScope [aA] [aA] (defScope GX):=fS
theorem zdc {ps:List Str}:FnOk P w K mg base CX0 k f fd ps (Im K 0):=tG fun vs H Q E ⟨v,d,_,_,h,_⟩=>by omega
theorem zhf (B:BI mg) (GN:Got P w K mg base iz [aA] 2 (Pr K)) (G:Got P w K mg base dO [aA] (n+3) (FP K n)) (F:Fun K gA gA GX f fd) :
  FnOk P w K mg base CX0 (n+4) f fd [aA] (Im K (n+1)):=by
 refine F.ok zgj (fun vs H Q E h=>?_) (fun _ A _ _ H vs Q E hr h=>?_)
 ·obtain ⟨v,l,rfl,_⟩:=h
  rfl
 obtain ⟨v,d,rfl,th,hd,h80,hw,q⟩:=h;refine ⟨_,Qe (Qj (pe_and (tF B (pv 0) B.tuple boot_tuple) (pe_and (pe_cmpR op_eq (Qs call_len_seq rfl B.len PySem.boot_len (Qa (pv 0) Qb)) Qg (nomark _))
  (pe_and (aT GN (Hm hr) rfl (Qa (Qm Ql (pv 0) Qg (fun _ _=>rfl)) Qb)) (pe_one (aT G hr rfl (Qa (Qm Ql (pv 0) Qg (fun _ _=>rfl)) Qb))))))),?_⟩
 obtain ⟨n1,b,ty,kb,y1,y2⟩:=th.ty;refine ⟨_,Ja,_,_,n1,b,Ja,ty,kb,b,Ja,?_⟩;cases b with
 | false =>
  refine iteF ?_;have e:lT d=false:=by
   cases d with
   | tuple ds=>exact absurd rfl (y2 rfl ds)
   | _=>simp [lT]
  have:=q H SB.refl;rw [e] at this;exact this
 | true =>
 refine iteT ?_;obtain ⟨a,xs,ds,rfl,rfl,hs,ha⟩:=y1 rfl;refine ⟨_,Ja,a,xs,Ja,.inr hs,Ja,_,Ja,?_⟩;have hl:=TgAll.length ha;refine ite2 (fun c=>?_) (fun c=>?_)
 ·have c':V.int (xs.length:Nat)=V.int 2:=Ks c
  injection c' with c'
  have c2:xs.length=2:=by omega
  cases ha with
  | nil=>simp at c2
  | cons t1 ta =>
   cases ta with
   | nil=>simp at c2
   | cons t2 ta =>
    cases ta with
    | cons t3 ta=>simp at c2
    | nil =>
     rename_i v1 d1 v2 d2;have q1:d2.depth < PyData.depth (.tuple [d1,d2]):=by simp only [PyData.depth,PyData.depthAll]; omega
     have q2:wide d2<=wide (.tuple [d1,d2]):=by simp only [wide,tD]; omega
     refine ⟨_,Ja,a,_,_,_,Ja,Ja,hs,atI_nat (j:=0) rfl,v1,d1,Ja,t1,fun H1 h1=>?_⟩;refine ⟨_,Ja,?_⟩;cases e1:vV d1 with
     | false =>
      refine iteF ?_;have:=q H1 h1;have e:lT (.tuple [d1,d2])=false:=by simp [lT,rD,e1]
      rw [e] at this;exact this
     | true =>
      refine iteT ?_;refine ⟨_,Ja,a,_,_,_,Ja,Ja,h1.aL hs,atI_nat (j:=1) rfl,v2,d2,Ja,zR h1 t2,by omega,by omega,by omega,fun H2 h2=>?_⟩;have:=q H2 (h1.trans h2);have e:lT (.tuple [d1,d2])=jF d2:=by simp [lT,rD,tL,e1]
      rw [e] at this;exact this
 ·have c':¬ V.int (xs.length:Nat)=V.int 2:=of_decide_eq_false (Bool.eq_false_iff.mpr c);have c2:¬ xs.length=2:=fun z=>c' (by rw [z]; rfl);have e:lT (.tuple ds)=false:=by
   cases e:lT (.tuple ds) with
   | false=>rfl
   | true =>
    obtain ⟨t,e2⟩:=Wc _ e
    injection e2 with e2
    rw [e2] at hl;exact absurd hl c2
  have:=q H SB.refl;rw [e] at this;exact this
abbrev U6:List Str:=[aA,"pair"]
theorem tW:FnScope U6 [aA] (defScope Fg):=fS
theorem zcy {ps:List Str}:FnOk P w K mg base CX0 k f fd ps (FP K 0):=tG fun vs H Q E ⟨v,d,_,_,h,_⟩=>by omega
theorem zc6 (bs:List (Tr × Int)):(bs.map Gr.aB).map om=bs.map fun p=>Gr.aG p.1:=by rw [List.map_map]; rfl
theorem XI:∀ bs:List (Tr × Int),jw (bs.map fun p=>Gr.aG p.1)=true
 | []=>by simp [jw]
 | p::r=>by rw [Ky,jw,XI r,Gr.ax]; rfl
theorem zg4 (B:BI mg) (GR:Got P w K mg base eW [cA] 1 (Wt K)) (G:Got P w K mg base a7 [cA] (n+3) (Ik K true n)) (F:Fun K dO dO Fg f fd) :
  FnOk P w K mg base CX0 (n+4) f fd [aA] (FP K (n+1)):=by
 refine F.ok tW (fun vs H Q E h=>?_) (fun _ A _ _ H vs Q E hr h=>?_)
 ·obtain ⟨v,l,rfl,_⟩:=h
  rfl
 obtain ⟨v,d,rfl,th,hd,h80,hw,q⟩:=h;refine ⟨_,Qc (Qr (PW.pt (Kk (Qp (Qo (tF B (pv 0) B.tuple boot_tuple))) (pw_or1 (Qp (Qo (aT G hr rfl (Qa (pv 0) Qb))))))) (Qe (Qj pe_bl)) pss_nil)
  (Qe (Qj (aT GR (Hm hr) rfl (Qa (pe_lc (own:=[("pair",1)]) (g:=gName 1) (tt:=tYes) (te:=tOp (rIxT K) (tVar 1) (tC (.int 0))) rfl tW.nd
   (pi_tup (pv 0))
   (blkOk_by (N:=U6) (sc:=defScope Fg) (by decide +kernel))
   (fun _ _ _ _ _=>pg_name (i:=1) tW.nd rfl (.inl rfl))
   (fun _ _ _ _ _=>pts_nil)
   (fun _ _ _ _ _=>Qm Ql (pv 1) Qg (fun _ _=>rfl))) Qb)))),?_⟩
 obtain ⟨n1,b,ty,kb,y1,y2⟩:=th.ty;refine ⟨_,Ja,_,_,n1,b,Ja,ty,kb,b,Ja,?_⟩;cases b with
 | false =>
  refine iteT (iteT ?_);have e:jF d=false:=by
   cases d with
   | tuple ds=>exact absurd rfl (y2 rfl ds)
   | _=>simp [jF]
  have:=q H SB.refl;rw [e] at this;exact this
 | true =>
 refine iteF ?_;obtain ⟨a,xs,ds,rfl,rfl,hs,ha⟩:=y1 rfl;have hl:=TgAll.length ha;have m3:PyData.depth (.tuple ds)=PyData.depthAll ds+1:=by simp [PyData.depth]
 refine ⟨_,Ja,a,xs,ds,Ja,by simpa using hs,ha,by omega,by omega,hw,fun H2 h2=>⟨_,Ja,?_⟩⟩;cases e1:j1 ds with
 | false =>
  refine iteT ?_;have:=q H2 h2;rw [jF,e1] at this;exact this
 | true =>
  refine iteF ?_;obtain ⟨g,rfl⟩:=P9 ds e1;have i3:GA K H (.ref a) g:=Dp.tup hs (CJ g ha);obtain ⟨a',XR,e',vo,hb⟩:=nH (i3.sb h2);cases e';have hlen:=hb.length;have gl:g.encs.length=g.ps.length:=by rw [Gr.dS,Ye]
  rw [QJ] at hw;refine ⟨_,Ja,a,Ja,⟨XR,vo⟩,fun D hD=>?_⟩;refine lc_it (walk_tup (xs:=XR)) (fun i H3=>SB [D] H2 H3/\∃ acc,H3 D=some (.lst acc)/\DpAll K H3 acc ((g.ps.take i).map fun p=>Gr.aG p.1)) ⟨SB.new hD _,[],Qt,.nil⟩ (fun i H3 hi h3=>(h3.1.drop hD).aL vo) (fun i x H3 H' hi h3 y=>?_) (fun H3 h3=>?_)
  ·obtain ⟨h3,acc,h4,h5⟩:=h3;obtain ⟨rfl,ex⟩:=y;obtain ⟨p,ep,fz⟩:=hb.get ex;obtain ⟨ad,bd,ux,rfl,vn,jB,yO,J5⟩:=nP fz;have h6:=h3.drop hD;have D5:=DpAll.length h5;refine ⟨rfl,?_⟩;refine ⟨_,Ja,ad,_,_,_,Ja,Ja,h6.aL vn,atI_nat (j:=0) rfl,acc,h4,?_,?_⟩
   ·rw [D5,Ye,Kx];exact vW (by omega)
   ·have h7:=SB.set (ps:=[D]) h4 (by simp) (.lst (acc++[.ref bd]));refine ⟨h3.trans h7,_,Qt,?_⟩;rw [Yg,ep,Yj];exact DpAll.append (Qq h7 _ _ (XI _) h5) (.cons (cI h7 _ _ (Gr.ax _) (cI h6 _ _ (Gr.ax _) J5)) .nil)
  ·obtain ⟨xh,acc,h4,h5⟩:=h3;rw [hlen,Yh] at h5;have h6:=xh.drop hD;have D5:=DpAll.length h5;refine ⟨D,acc,g.ps.map fun p=>Gr.aG p.1,Ja,SqL.of h4,h5,?_,?_,?_,fun H9 h9=>?_⟩
   ·intro d Af;obtain ⟨p1,m1,rfl⟩:=Qx Af;have hd2:(Gr.aB p1).depth<=PyData.depthAll g.encs:=PyData.depth_le_depthAll _ _ (by rw [Gr.dS]; exact List.mem_map_of_mem m1);have Kg:(Gr.aG p1.1).depth < (Gr.aB p1).depth:=by
     show _ < (PyData.tuple [Gr.aG p1.1,.int p1.2]).depth;simp only [PyData.depth,PyData.depthAll]; omega
    exact ⟨Gr.ax _,(fun z:Gr.aG p1.1=.none=>by simp [Gr.aG] at z),by omega⟩
   ·intro d Af d2 hd2;obtain ⟨p1,_,rfl⟩:=Qx Af;obtain ⟨p2,_,rfl⟩:=Qx hd2;exact Orderly.al (enc:=Gr.aG) _ _
   ·rw [D5,Ye]; omega
   ·have:=q H9 ((h2.trans h6).trans h9);rw [jF,e1,Bool.true_and,Gr.dS,zc6] at this;exact this
abbrev za1:List Str:=[cA,aA]
theorem qa:FnScope za1 [cA] (defScope EZ):=fS
theorem zd8 {ps:List Str} {tp:Bool}:FnOk P w K mg base CX0 k f fd ps (Ik K tp 0):=tG fun vs H Q E ⟨a,xs,ds,_,_,_,h,_⟩=>by omega
theorem Io:∀ ds:List PyData,j1 ds=ds.all jE
 | []=>by rw [j1]; rfl
 | d::ds=>by rw [j1,Io ds]; rfl
theorem zgk (B:BI mg) (GM:Got P w K mg base gB [aA] 2 (NU K [])) (G:Got P w K mg base gA [aA] (n+3) (Im K n)) (F:Fun K a7 a7 EZ f fd) :
  FnOk P w K mg base CX0 (n+4) f fd [cA] (Ik K true (n+1)):=by
 refine F.ok qa (fun vs H Q E h=>?_) (fun _ A _ _ H vs Q E hr h=>?_)
 ·obtain ⟨a,xs,ds,rfl,_⟩:=h
  rfl
 obtain ⟨a,xs,ds,rfl,hs,ha,hd,h79,hw,q⟩:=h;refine ⟨_,Qc (ps_for PassesOwn.never rfl (pi_tup (pv 0)) (pg_name (i:=1) qa.nd rfl (.inl rfl))
   (Qc (Qr (PW.pt (Kk (Qp (Qo (tF B (pv 1) B.tuple boot_tuple))) (pw_or1 (pt_cmpR op_ne (Qs call_len_seq rfl B.len PySem.boot_len (Qa (pv 1) Qb)) Qg (nomark _))))) (Qe (Qj pe_bl)) pss_nil)
   (Qe (Qr (PW.pt (Kk (Qp (Qo (aT G hr rfl (Qa (Qm Ql (pv 1) Qg (fun _ _=>rfl)) Qb)))) (pw_or1 (Qp (Qo (aT GM (Hm hr) rfl (Qa (Qm Ql (pv 1) Qg (fun _ _=>rfl)) Qb))))))) (Qe (Qj pe_bl)) pss_nil))))
  (Qe (Qj pe_bl)),?_⟩
 have hs:SqT K H a xs:=by simpa using hs
 have hl:=TgAll.length ha;rw [QJ] at hw;refine ⟨_,Ja,a,Ja,⟨xs,hs⟩,?_⟩;refine for_tup (K:=K) (a:=a) (xs:=xs) (fun i σ H2=>SB [] H H2/\(∃ o,σ=[some (.ref a),o])/\(ds.take i).all jE=true) ⟨SB.refl,⟨none,Ja⟩,by simp⟩ (fun i σ H2 hi h2=>h2.1.aL hs) (fun i x σ H2 hx h2=>?_) (fun σ H2 h2=>?_)
 ·obtain ⟨h2,⟨o,rfl⟩,h3⟩:=h2;obtain ⟨dx,ex,tx⟩:=TgAll.get ha hx;have mx:=Qu ex;have m1:=XP ex;have m2:=Qk _ _ mx;have no:jE dx=false->∀ H',SB [] H2 H'->Q (.bl false) H':=fun e H' s'=>by
   have:=q H' (h2.trans s');have e2:j1 ds=false:=by
    rw [Io,List.all_eq_false];exact ⟨dx,mx,by rw [e]; exact Bool.false_ne_true⟩
   rw [e2] at this;exact this
  obtain ⟨n1,b,ty,kb,y1,y2⟩:=(zR h2 tx).ty;refine ⟨_,Ja,_,_,n1,b,Ja,ty,kb,b,Ja,?_⟩;cases b with
  | false =>
   refine iteT (iteT (no ?_ _ SB.refl));cases dx with
   | tuple ds=>exact absurd rfl (y2 rfl ds)
   | _=>simp [jE]
  | true =>
  refine iteF ?_;obtain ⟨b1,ys,es,rfl,rfl,jZ,sD⟩:=y1 rfl;refine ⟨_,Ja,b1,ys,Ja,.inr jZ,Ja,_,Ja,?_⟩;have i7:=TgAll.length sD;by_cases c2:ys.length=2
  ·rw [show (!decide (V.int (ys.length:Nat)=V.int 2))=false by rw [c2]; rfl];refine iteF ?_;cases sD with
   | nil=>simp at c2
   | cons t1 ta =>
    cases ta with
    | nil=>simp at c2
    | cons t2 ta =>
     cases ta with
     | cons t3 ta=>simp at c2
     | nil =>
      rename_i v1 d1 v2 d2;have q1:d1.depth < PyData.depth (.tuple [d1,d2]):=by simp only [PyData.depth,PyData.depthAll]; omega
      have q2:wide d1<=wide (.tuple [d1,d2]):=by simp only [wide,tD]; omega
      refine ⟨_,Ja,b1,_,_,_,Ja,Ja,jZ,atI_nat (j:=0) rfl,v1,d1,Ja,t1,by omega,by omega,by omega,fun H3 xh=>?_⟩;refine ⟨_,Ja,?_⟩;cases e1:lT d1 with
      | false=>exact iteT (iteT (no (by simp [jE,oj,e1]) _ xh))
      | true =>
       refine iteF ?_;refine ⟨_,Ja,b1,_,_,_,Ja,Ja,xh.aL jZ,atI_nat (j:=1) rfl,v2,zS d2,Ja,(zR xh t2).th,_,Ja,?_⟩;rw [XA];have e:jE (.tuple [d1,d2])=qS d2:=by simp [jE,oj,sW,e1]
       cases e2:qS d2 with
       | false=>exact iteT (no (by rw [e,e2]) _ xh)
       | true =>
        refine iteF ⟨h2.trans xh,⟨_,Ja⟩,?_⟩;rw [Yg,ex,List.all_append,h3];simp [e,e2]
  ·rw [show (!decide (V.int (ys.length:Nat)=V.int 2))=true by rw [Qz (fun z=>by injection z with z; omega)]; rfl];refine iteT (no ?_ _ SB.refl);cases e:jE (.tuple es) with
   | false=>rfl
   | true =>
    obtain ⟨t,i,e2,_⟩:=PL _ e
    injection e2 with e2
    rw [e2] at i7;exact absurd i7 c2
 ·obtain ⟨h2,⟨o,rfl⟩,h3⟩:=h2;rw [hl,Yh,<- Io] at h3;have:=q H2 h2;rw [h3] at this;exact this
theorem zbk (B:BI mg) (GM:Got P w K mg base gB [aA] 2 (NU K [])) (G:Got P w K mg base gA [aA] (n+3) (Im K n)) (F:Fun K a7 a7 EZ f fd) :
  FnOk P w K mg base CX0 (n+4) f fd [cA] (Ik K false (n+1)):=by
 refine F.ok qa (fun vs H Q E h=>?_) (fun _ A _ _ H vs Q E hr h=>?_)
 ·obtain ⟨a,xs,ds,rfl,_⟩:=h
  rfl
 obtain ⟨a,xs,ds,rfl,hs,ha,hd,h79,hw,q⟩:=h;refine ⟨_,Qc (ps_for PassesOwn.never rfl (pi_list (pv 0)) (pg_name (i:=1) qa.nd rfl (.inl rfl))
   (Qc (Qr (PW.pt (Kk (Qp (Qo (tF B (pv 1) B.tuple boot_tuple))) (pw_or1 (pt_cmpR op_ne (Qs call_len_seq rfl B.len PySem.boot_len (Qa (pv 1) Qb)) Qg (nomark _))))) (Qe (Qj pe_bl)) pss_nil)
   (Qe (Qr (PW.pt (Kk (Qp (Qo (aT G hr rfl (Qa (Qm Ql (pv 1) Qg (fun _ _=>rfl)) Qb)))) (pw_or1 (Qp (Qo (aT GM (Hm hr) rfl (Qa (Qm Ql (pv 1) Qg (fun _ _=>rfl)) Qb))))))) (Qe (Qj pe_bl)) pss_nil))))
  (Qe (Qj pe_bl)),?_⟩
 have hs:SqL K H a xs:=by simpa using hs
 have hl:=TgAll.length ha;rw [QJ] at hw;refine ⟨_,Ja,a,Ja,⟨xs,hs⟩,?_⟩;refine for_list (K:=K) (a:=a) (xs:=xs) (fun i σ H2=>SB [] H H2/\(∃ o,σ=[some (.ref a),o])/\(ds.take i).all jE=true) ⟨SB.refl,⟨none,Ja⟩,by simp⟩ (fun i σ H2 hi h2=>h2.1.fO aP hs) (fun i x σ H2 hx h2=>?_) (fun σ H2 h2=>?_)
 ·obtain ⟨h2,⟨o,rfl⟩,h3⟩:=h2;obtain ⟨dx,ex,tx⟩:=TgAll.get ha hx;have mx:=Qu ex;have m1:=XP ex;have m2:=Qk _ _ mx;have no:jE dx=false->∀ H',SB [] H2 H'->Q (.bl false) H':=fun e H' s'=>by
   have:=q H' (h2.trans s');have e2:j1 ds=false:=by
    rw [Io,List.all_eq_false];exact ⟨dx,mx,by rw [e]; exact Bool.false_ne_true⟩
   rw [e2] at this;exact this
  obtain ⟨n1,b,ty,kb,y1,y2⟩:=(zR h2 tx).ty;refine ⟨_,Ja,_,_,n1,b,Ja,ty,kb,b,Ja,?_⟩;cases b with
  | false =>
   refine iteT (iteT (no ?_ _ SB.refl));cases dx with
   | tuple ds=>exact absurd rfl (y2 rfl ds)
   | _=>simp [jE]
  | true =>
  refine iteF ?_;obtain ⟨b1,ys,es,rfl,rfl,jZ,sD⟩:=y1 rfl;refine ⟨_,Ja,b1,ys,Ja,.inr jZ,Ja,_,Ja,?_⟩;have i7:=TgAll.length sD;by_cases c2:ys.length=2
  ·rw [show (!decide (V.int (ys.length:Nat)=V.int 2))=false by rw [c2]; rfl];refine iteF ?_;cases sD with
   | nil=>simp at c2
   | cons t1 ta =>
    cases ta with
    | nil=>simp at c2
    | cons t2 ta =>
     cases ta with
     | cons t3 ta=>simp at c2
     | nil =>
      rename_i v1 d1 v2 d2;have q1:d1.depth < PyData.depth (.tuple [d1,d2]):=by simp only [PyData.depth,PyData.depthAll]; omega
      have q2:wide d1<=wide (.tuple [d1,d2]):=by simp only [wide,tD]; omega
      refine ⟨_,Ja,b1,_,_,_,Ja,Ja,jZ,atI_nat (j:=0) rfl,v1,d1,Ja,t1,by omega,by omega,by omega,fun H3 xh=>?_⟩;refine ⟨_,Ja,?_⟩;cases e1:lT d1 with
      | false=>exact iteT (iteT (no (by simp [jE,oj,e1]) _ xh))
      | true =>
       refine iteF ?_;refine ⟨_,Ja,b1,_,_,_,Ja,Ja,xh.aL jZ,atI_nat (j:=1) rfl,v2,zS d2,Ja,(zR xh t2).th,_,Ja,?_⟩;rw [XA];have e:jE (.tuple [d1,d2])=qS d2:=by simp [jE,oj,sW,e1]
       cases e2:qS d2 with
       | false=>exact iteT (no (by rw [e,e2]) _ xh)
       | true =>
        refine iteF ⟨h2.trans xh,⟨_,Ja⟩,?_⟩;rw [Yg,ex,List.all_append,h3];simp [e,e2]
  ·rw [show (!decide (V.int (ys.length:Nat)=V.int 2))=true by rw [Qz (fun z=>by injection z with z; omega)]; rfl];refine iteT (no ?_ _ SB.refl);cases e:jE (.tuple es) with
   | false=>rfl
   | true =>
    obtain ⟨t,i,e2,_⟩:=PL _ e
    injection e2 with e2
    rw [e2] at i7;exact absurd i7 c2
 ·obtain ⟨h2,⟨o,rfl⟩,h3⟩:=h2;rw [hl,Yh,<- Io] at h3;have:=q H2 h2;rw [h3] at this;exact this
abbrev zjd:List Str:=[bp,aI]
theorem zg1:FnScope zjd [bp,aI] (defScope HP):=fS
theorem zie (B:BI mg) (MT:Got P w K mg base gW [eE] (1) (Xl K Gr.aG)) (F:Fun K fX fX HP f fd):FnOk P w K mg base CX0 (2) f fd [bp,aI] (QK K):=by
 refine F.ok zg1 (fun vs H Q E h=>?_) (fun _ A _ _ H vs Q E hr h=>?_)
 ·obtain ⟨v,u,g,k,rfl,_⟩:=h
  rfl
 obtain ⟨v,u,g,k,rfl,hv,hu,⟨C,go,ko⟩,gd,kd,gp,kp,q⟩:=h;have bA:=bt hr;refine ⟨_,Qe (Qj (aT MT (Hm hr) rfl (Qa (Qs (zb9 Gr.aB (by show A.units+3+195 < cLine; omega)) rfl B.sorted (by decide +kernel) (Qa (pe_op zT (pv 0) (pv 1)) Qb)) Qb))),?_⟩;obtain ⟨a,xs,rfl,iq,gH⟩:=nH hv;obtain ⟨b,ys,rfl,hY,gG⟩:=nH hu;have xl:=gH.length;have yl:=gG.length;have hok:∀ p ∈ g.ps++k.ps,dE p.1.1/\p.1.2.Ok C/\p.1.2.deep<=62:=fun p hp=>by
  rcases Qw hp with h | h
  ·have h1:=(Gr.bj.mp go).1 p h;have h2:=g.av p h;exact ⟨h1.1,h1.2.1,by omega⟩
  ·have h1:=(Gr.bj.mp ko).1 p h;have h2:=k.av p h;exact ⟨h1.1,h1.2.1,by omega⟩
 refine ⟨_,Ja,_,Ja,a,b,xs,ys,Ja,Ja,iq,hY,by have:=Fv (n:=xs.length+ys.length) (by omega); omega,fun c H1 s1 hc=>?_⟩;refine ⟨c,_,g.ps++k.ps,Ja,.inr hc,Bears.append (gH.sb s1 Gr.aa) (gG.sb s1 Gr.aa),Gr.jR _,Gr.eG _,by rw [Yf]; omega,fun p hp=>?_,fun p zs hp hz=>?_⟩
 ·have:=Gr.dv p;have:=(hok p hp).2.2;omega
 have s2:=Jb hp (.lst zs);refine ⟨p,zs,nV Gr.aB (g.ps++k.ps),Ja,SqL.of Qt,hz.sb s2 Gr.aa,?_,fun b hb=>?_,fun c2 ws H3 s3 qD hZ=>?_⟩
 ·rw [(zU _).length_eq,Yf]; omega
 ·obtain ⟨h1,h2,h3⟩:=hok b ((zU _).mem_iff.mp hb);exact Gr.xT h1 h2 (by omega)
 ·exact q _ _ ((s1.trans s2).trans s3) (CU qD hZ)
abbrev zjn:List Str:=[ah,bN,a9,"left",aI,"count"]
theorem pU:FnScope zjn [ah,bN,a9] (defScope Ht):=fS
theorem zhw (B:BI mg) (F:Fun K j6 j6 Ht f fd):FnOk P w K mg base CX0 (1) f fd [ah,bN,a9] (Xg K):=by
 refine F.ok pU (fun vs H Q E h=>?_) (fun _ A _ s H vs Q E hr h=>?_)
 ·obtain ⟨v,u,g,t,m,rfl,_⟩:=h
  rfl
 obtain ⟨v,u,g,t,m,rfl,hv,hu,⟨C,go,to⟩,tn,gd,td,gl,q⟩:=h;have bA:=bt hr;refine ⟨_,Qc (ps_set (i:=3) pU.nd rfl (.inl rfl) (pe_lst Qb))
  (Qc (ps_for PassesOwn.never rfl (pi_tup (pv 0)) (pg_tup rfl (Qi (pg_name (i:=4) pU.nd rfl (.inl rfl)) (Qi (pg_name (i:=5) pU.nd rfl (.inl rfl)) pgs_nil)))
   (Qe (Qr (pt_cmpR (VL (by show A.units+3+195 < cLine; omega)) (pv 4) (pv 1) (nomark _)) (Qe (Kf (Kn Ki PySem.F.slot_list_append PySem.F.type_list_append mt_append (pv 3) (Qa (Ka (Qa (pv 4) (Qa (pv 5) Qb))) Qb)))) (Qe (Qr (pt_cmpR op_gt (pv 5) (pv 2) (nomark _)) (Qe (Kf (Kn Ki PySem.F.slot_list_append PySem.F.type_list_append mt_append (pv 3) (Qa (Ka (Qa (pv 4) (Qa (pe_op op_sub (pv 5) (pv 2)) Qb))) Qb)))) pss_nil)))))
  (Qe (Qj (pe_callTy call_tuple_of rfl B.tuple boot_tuple (Qa (pv 3) Qb))))),?_⟩
 have jy:=sizeLine_eq;obtain ⟨a,xs,rfl,hs,hb⟩:=nH hv;have xl:=hb.length;refine ⟨Z0,fun D nD=>?_⟩;have t1:=Jb nD (.lst []);have oi:=eZ t1;generalize upd H D _=H1 at t1 oi;refine ⟨_,Ja,a,Ja,⟨xs,t1.aL hs⟩,?_⟩;refine for_it (walk_tup (xs:=xs)) (fun i σ H2=>∃ (us:List V) (o4 o5:Option V),σ=[some (.ref a),some u,some (.int m),some (.ref D),o4,o5]/\SB [D] H1 H2/\H2 D=some (.lst us)/\Bears K H2 Gr.aB us (Gr.woL t m (g.ps.take i))/\us.length<=i)
  ⟨[],none,none,rfl,SB.refl,oi,.nil,Yc _⟩ (fun i σ H2 hi h2=>by obtain ⟨_,_,_,_,s,_⟩:=h2; exact s.aL (t1.aL hs)) (fun i x σ H2 H' hi h2 y=>?_) (fun σ H2 h2=>?_)
 ·obtain ⟨us,o4,o5,rfl,s2,aV,bS,ul⟩:=h2;obtain ⟨rfl,ey⟩:=y;obtain ⟨p,ep,fz⟩:=hb.get ey;have pm:=Qu ep;obtain ⟨n1,o1,_,_⟩:=Gr.bW go pm;have pd:=g.av p pm;have lC:SB [] H H':=((t1.nil (ps:=[D])).trans s2).drop nD;obtain ⟨ad,bd,ux,rfl,h1,h2,h3,h4⟩:=nP fz;have ZH:=cI lC _ _ (Gr.ax _) h4;have jB:Gr.woL t m (g.ps.take (i+1))=Gr.woL t m (g.ps.take i)++Gr.woL t m [p]:=by rw [Yg,ep,Gr.lU]; rfl
  refine ⟨ad,_,Ja,lC.aL h1,Ja,_,_,Ja,_,_,Ja,Ja,?_⟩;refine ⟨_,Ja,_,Ja,Gr.aG p.1,Gr.aG t,ZH,cI lC _ _ (Gr.ax _) hu,Gr.xT n1 o1 (by omega),Gr.xT tn to td,_,Ja,?_⟩;rw [Gr.ou]
  -- what is put behind
  have app:∀ c:Int,Gr.woL t m [p]=[(p.1,c)]->∀ (T:Addr),H' T=none->∃ tK o4' o5',[some (V.ref a),some u,some (.int m),some (.ref D),some (.ref bd),some (.int p.2)]=[some (.ref a),some u,some (.int m),some (.ref D),o4',o5']/\SB [D] H1 (upd (upd H' T (.tup [.ref bd,.int c])) D (.lst (us++[.ref T])))/\upd (upd H' T (.tup [.ref bd,.int c])) D (.lst (us++[.ref T])) D=some (.lst tK)/\Bears K (upd (upd H' T (.tup [.ref bd,.int c])) D (.lst (us++[.ref T]))) Gr.aB tK (Gr.woL t m (g.ps.take (i+1)))/\tK.length<=i+1:=fun c e T nT=>by
   have t3:=SB.new (ps:=[D]) nT (.tup [.ref bd,.int c]);have bH:upd H' T (.tup [.ref bd,.int c]) D=some (.lst us):=by rw [upd_ne (ne_of_none aV nT)]; exact aV
   have t4:=SB.set (ps:=[D]) bH (by simp) (.lst (us++[.ref T]));refine ⟨us++[.ref T],_,_,Ja,(s2.trans t3).trans t4,Qt,?_,by rw [Yf]; show us.length+1<=_; omega⟩;rw [jB,e];exact ((bS.sb t3 Gr.aa).sb t4 Gr.aa).append (.cons (CQ (t4.aL (SqT.of Qt)) (cI (t3.trans t4) _ _ (Gr.ax _) ZH)) .nil)
  by_cases hz:p.1=t
  ·rw [show (!decide (p.1=t))=false by simp [hz]];refine iteF ⟨_,Ja,_,Ja,_,_,Ja,Ja,_,Ja,?_⟩;by_cases hm:m < p.2
   ·rw [Ya hm];refine iteT ⟨_,Ja,.inl ⟨rfl,_,SqL.of aV⟩,_,Ja,_,Ja,_,Ja,_,_,Ja,Ja,dY,fun T nT=>?_⟩;have bH:upd H' T (.tup [.ref bd,.int (p.2-m)]) D=some (.lst us):=by rw [upd_ne (ne_of_none aV nT)]; exact aV
    exact ⟨D,_,_,Ja,Ja,bH,by omega,app (p.2-m) (by rw [Gr.woL,if_neg (by simpa using hz),if_pos hm]; rfl) T nT⟩
   ·rw [Qz hm];refine iteF ⟨us,_,_,Ja,s2,aV,?_,by omega⟩;rw [jB,show Gr.woL t m [p]=[] by rw [Gr.woL,if_neg (by simpa using hz),if_neg hm]; rfl,Kz];exact bS
  ·rw [show (!decide (p.1=t))=true by simp [hz]];refine iteT ⟨_,Ja,.inl ⟨rfl,_,SqL.of aV⟩,_,Ja,_,Ja,dY,fun T nT=>?_⟩;have bH:upd H' T (.tup [.ref bd,.int p.2]) D=some (.lst us):=by rw [upd_ne (ne_of_none aV nT)]; exact aV
   exact ⟨D,_,_,Ja,Ja,bH,by omega,app p.2 (by rw [Gr.woL,if_pos hz]; rfl) T nT⟩
 ·obtain ⟨us,o4,o5,rfl,s2,aV,bS,ul⟩:=h2;rw [xl,Yh] at bS;refine ⟨_,Ja,D,us,Ja,.inl ⟨SqL.of aV,fun T nT=>?_⟩⟩;have t3:=Jb nT (.tup us);have lC:SB [] H H2:=((t1.nil (ps:=[D])).trans s2).drop nD;exact q _ _ (lC.trans t3) (CU (SqT.of Qt) (bS.sb t3 Gr.aa))
abbrev Vp:List Str:=[ah,a9,bN,"count"]
theorem pV:FnScope Vp [ah,a9] (defScope EU):=fS
theorem zj2 (B:BI mg) (F:Fun K uP uP EU f fd):FnOk P w K mg base CX0 (1) f fd [ah,a9] (VR K):=by
 refine F.ok pV (fun vs H Q E h=>?_) (fun _ A _ _ H vs Q E hr h=>?_)
 ·obtain ⟨v,g,m,rfl,_⟩:=h
  rfl
 obtain ⟨v,g,m,rfl,hv,gl,hp,m0,mb,q⟩:=h;have bA:=bt hr;refine ⟨_,Qc (Qr (pt_cmpR op_eq (pv 1) Qg (nomark _)) (Qe (Qj (Ka Qb))) pss_nil)
  (Qe (Qj (pe_callTy call_tuple_of rfl B.tuple boot_tuple (Qa (pe_lc (own:=[(bN,2),("count",3)]) (g:=(gTup K 2 (gCons (gName 2) (gCons (gName 3) gNil)))) (tt:=tYes) (te:=(tTup (tCons (tVar 2) (tCons (tOp (rI CMulW fun i j=>.int (i*j)) (tVar 3) (tVar 1)) tNil)))) rfl pV.nd (pi_tup (pv 0)) (blkOk_by (N:=Vp) (sc:=defScope EU) (by decide +kernel)) (fun _ _ _ _ _=>(pg_tup rfl (Qi (pg_name (i:=2) pV.nd rfl (.inl rfl)) (Qi (pg_name (i:=3) pV.nd rfl (.inl rfl)) pgs_nil)))) (fun _ _ _ _ _=>pts_nil) (fun _ _ _ _ _=>(Ka (Qa (pv 2) (Qa (pe_op op_mulW (pv 3) (pv 1)) Qb))))) Qb)))),?_⟩
 have jy:=sizeLine_eq;obtain ⟨a,xs,rfl,hs,hb⟩:=nH hv;have xl:=hb.length;refine ⟨_,Ja,Ja,_,Ja,?_⟩;by_cases z:m=0
 ·subst z;refine iteT ⟨Z0,fun T nT=>?_⟩;exact q _ _ (Jb nT _) (Ah (SqT.of Qt))
 rw [show decide (V.int m=V.int 0)=false by simp [z]];refine iteF ⟨_,Ja,a,Ja,⟨xs,hs⟩,fun D nD=>?_⟩;refine Py (walk_tup (xs:=xs)) [] nD (by simp) (by omega) (fun i us H2=>Bears K H2 Gr.aB us (Gr.jH m (g.ps.take i))) .nil (fun H2 s2=>s2.aL hs) (fun i us H2 H3 s3 h=>h.sb s3 Gr.aa) (fun Pv i x Hq H2 us hi s2 y hR hu aV fin _=>?_) (fun us H2 s2 aV hR zZ=>?_)
 ·obtain ⟨rfl,ey⟩:=y;obtain ⟨p,ep,fz⟩:=hb.get ey;obtain ⟨p0,p1⟩:=hp p (Qu ep);obtain ⟨ad,bd,ux,rfl,h1,h2,h3,h4⟩:=nP fz;refine ⟨ad,_,Ja,s2.aL h1,Ja,_,_,Ja,_,_,Ja,Ja,Ja,?_⟩;refine ⟨_,Ja,_,Ja,_,Ja,_,_,Ja,Ja,?_,dY,fun T nT=>?_⟩
  ·have e1:=Fs (x:=p.2) (a:=2000) (b:=2000) (Gr.fx p0 p1) (Yc _) (by decide);have e2:=Fs (x:=m) (a:=2000) (b:=2000) (Gr.fx m0 mb) (Yc _) (by decide);unfold CMulW;omega
  have t3:=Jb nT (.tup [.ref bd,.int (p.2*m)]);refine fin _ _ t3 ?_;have jB:Gr.jH m (g.ps.take (i+1))=Gr.jH m (g.ps.take i)++[(p.1,p.2*m)]:=by rw [Yg,ep,Gr.jH,Gr.jH,Yj]; rfl
  rw [jB];exact (hR.sb t3 Gr.aa).append (.cons (CQ (SqT.of Qt) (cI (s2.trans t3) _ _ (Gr.ax _) h4)) .nil)
 ·rw [xl,Yh] at hR;refine ⟨D,us,Ja,.inl ⟨SqL.of aV,fun T nT=>?_⟩⟩;have t3:=Jb nT (.tup us);refine q _ _ (s2.trans t3) ?_;rw [Gr.dJ,if_neg z];exact CU (SqT.of Qt) (hR.sb t3 Gr.aa)
theorem tT:FnScope [ah,"found","pair"] [ah] (defScope Hy):=fS
theorem zgd (G:Got P w K mg base bf [ah] n (BC K n)) (F:Fun K bf bf Hy f fd):FnOk P w K mg base CX0 (n+1) f fd [ah] (BC K (n+1)):=by
 refine F.ok tT (fun vs H Q E h=>?_) (fun _ A _ _ H vs Q E hr h=>?_)
 ·obtain ⟨v,g,rfl,_⟩:=h
  rfl
 obtain ⟨v,g,rfl,hg,hd,hp,q⟩:=h;refine ⟨_,Qc (ps_set (i:=1) tT.nd rfl (.inl rfl) (pe_lst Qb))
  (Qc (ps_for PassesOwn.never rfl (pi_tup (pv 0)) (pg_name (i:=2) tT.nd rfl (.inl rfl))
   (Qc (Kf (Kn Ki PySem.F.slot_list_append PySem.F.type_list_append mt_append (pv 1) (Qa (pv 2) Qb)))
   (Qe (Kf (Kn Ki PySem.F.slot_list_extend PySem.F.type_list_extend mt_extend (pv 1) (Qa (aT G hr rfl (Qa (Qm Ql (Qm Ql (pv 2) Qg (fun _ _=>rfl)) Qg (fun _ _=>rfl)) Qb)) Qb))))))
  (Qe (Qj (pv 1)))),?_⟩
 obtain ⟨a,xs,rfl,hs,hb⟩:=nH hg;have bl:=hb.length;have wl:=g.bK;refine ⟨(Z0),fun D hD=>?_⟩;refine ⟨_,Ja,a,Ja,⟨xs,(Jb hD _).aL hs⟩,?_⟩;refine for_it (walk_tup (xs:=xs)) (fun i σ H2=>SB [D] H H2/\∃ us o2,σ=[some (.ref a),some (.ref D),o2]/\H2 D=some (.lst us)/\Bears K H2 Gr.aB us ((g.ps.take i).flatMap fun p=>p::p.1.2.within)) ⟨SB.new hD _,[],none,Ja,Qt,.nil⟩ (fun i σ H2 hi h2=>(h2.1.drop hD).aL hs) (fun i x σ H2 H' hi h2 y=>?_) (fun σ H2 h2=>?_)
 ·obtain ⟨s2,us,o2,rfl,aV,bS⟩:=h2;obtain ⟨rfl,ex⟩:=y;obtain ⟨p,ep,fz⟩:=hb.get ex;have pm:=Qu ep;obtain ⟨ad,td,ux,rfl,dM,n5,i3,_⟩:=nP fz;have ul:=bS.length;have iL:(g.ps.take (i+1)).flatMap (fun p=>p::p.1.2.within)=(g.ps.take i).flatMap (fun p=>p::p.1.2.within)++(p::p.1.2.within):=by rw [Yg,ep]; simp
  have hle:((g.ps.take i).flatMap (fun p=>p::p.1.2.within)).length+(p.1.2.within.length+1)<=200000:=by
   have h1:g.within=(g.ps.take (i+1)).flatMap (fun p=>p::p.1.2.within)++(g.ps.drop (i+1)).flatMap (fun p=>p::p.1.2.within):=by rw [Gr.d7,<- List.flatMap_append,List.take_append_drop]
   have h2:=congrArg List.length h1;rw [iL,Yf,Yf,Yk,wl] at h2;omega
  refine ⟨_,Ja,.inl ⟨rfl,_,SqL.of aV⟩,_,Ja,D,us,_,Ja,Ja,aV,Fv (by omega),?_⟩;have t3:=SB.set (ps:=[D]) aV (by simp) (.lst (us++[.ref ad]));have bH:(upd H' D (.lst (us++[.ref ad]))) D=some (.lst (us++[.ref ad])):=Qt;have hZ:=Bears.append (bS.sb t3 Gr.aa) (.cons (cI (s2.trans t3) _ _ (Gr.aa _) fz) .nil);have s3:=s2.trans t3;have Ox:=s3.drop hD;generalize hH3:upd H' D (.lst (us++[.ref ad]))=H3 at t3 bH hZ s3 Ox;have pd:=g.av p pm;have pp:=g.bu p pm;refine ⟨_,Ja,.inl ⟨rfl,_,SqL.of bH⟩,_,Ja,ad,_,_,_,Ja,Ja,Ox.aL dM,atI_nat (j:=0) rfl,td,_,_,_,Ja,Ja,Ox.aL n5,atI_nat (j:=1) rfl,ux,p.1.2,Ja,i3.sb Ox,by omega,by omega,fun D2 Ou H4 s4 hDn jD Gf=>?_⟩;have KU:=s4.keep _ _ bH aP;have vl:=Gf.length;refine ⟨D,D2,_,_,Ja,Ja,KU,jD,?_,?_⟩
  ·rw [Yf,Yi];have:1000000<=sizeLine:=by decide
   omega
  have t5:=SB.set (ps:=[D]) KU (by simp) (.lst (us++[.ref ad]++Ou));refine ⟨(s3.trans s4.nil).trans t5,_,_,Ja,Qt,?_⟩;rw [iL,show ((g.ps.take i).flatMap (fun p=>p::p.1.2.within)++(p::p.1.2.within))=(g.ps.take i).flatMap (fun p=>p::p.1.2.within)++[p]++p.1.2.within by simp];exact Bears.append ((hZ.sb s4 Gr.aa).sb t5 Gr.aa) (Gf.sb t5 Gr.aa)
 ·obtain ⟨s2,us,o2,rfl,aV,bS⟩:=h2;rw [bl,Yh,<- Gr.d7] at bS;exact ⟨_,Ja,q D us H2 (s2.drop hD) hD aV bS⟩
abbrev Vn:List Str:=[ah,bN,a9]
theorem pZ:FnScope Vn [ah] (defScope Fi):=fS
theorem zhh (B:BI mg) (nv:Got P w K mg base bf [ah] (70) (BC K 70)) (F:Fun K cB cB Fi f fd):FnOk P w K mg base CX0 (71) f fd [ah] (P6 K):=by
 refine F.ok pZ (fun vs H Q E h=>?_) (fun _ A _ _ H vs Q E hr h=>?_)
 ·obtain ⟨v,g,ns,rfl,_⟩:=h
  rfl
 obtain ⟨v,g,ns,rfl,hv,hd,hp,hk,hn,q⟩:=h;have bA:=bt hr;refine ⟨_,Qe (Qj (Qs (XC rfl) rfl B.sorted (by decide +kernel) (Qa (VH (own:=[(bN,1),(a9,2)]) (g:=(gTup K 2 (gCons (gName 1) (gCons (gName 2) gNil)))) (tt:=tYes) (te:=(tOp (rIxT K) (tVar 1) (tC (.int 0)))) rfl pZ.nd (pi_list (aT nv (Hm hr) rfl (Qa (pv 0) Qb))) (blkOk_by (N:=Vn) (sc:=defScope Fi) (by decide +kernel)) (fun _ _ _ _ _=>(pg_tup rfl (Qi (pg_name (i:=1) pZ.nd rfl (.inl rfl)) (Qi (pg_name (i:=2) pZ.nd rfl (.inl rfl)) pgs_nil)))) (fun _ _ _ _ _=>pts_nil) (fun _ _ _ _ _=>(Qm Ql (pv 1) Qg (fun _ _=>rfl)))) Qb))),?_⟩;have scb:3001 < scanBound:=by decide +kernel
 have wl:=g.bK;refine ⟨_,Ja,v,g,Ja,hv,by omega,by omega,fun ll us H1 s1 FZ xa qZ=>?_⟩;have ul:=qZ.length;refine ⟨ll,Ja,⟨_,SqL.of xa⟩,fun D nD=>?_⟩;refine VD (walk_list (xs:=us)) nD (by omega) (fun i ss H2=>ss.Nodup/\∀ x,x ∈ ss ↔ x ∈ (g.within.take i).map fun p:Tr × Int=>p.1.1) ⟨List.nodup_nil,by simp⟩ (fun H2 s2=>s2.fO aP (SqL.of xa)) (fun _ _ _ _ _ h=>h) (fun Pv i x Hq H2 ss hi s2 y hR hl fin _=>?_) (fun ss H2 s2 aV hR hl=>?_)
 ·obtain ⟨rfl,ey⟩:=y;obtain ⟨p,ep,fz⟩:=qZ.get ey;obtain ⟨ad,td,ux,rfl,dM,n5,i3,_⟩:=nP fz;refine ⟨ad,_,Ja,s2.aL dM,Ja,_,_,Ja,_,_,Ja,Ja,Ja,?_⟩;refine ⟨_,Ja,td,_,_,_,Ja,Ja,s2.aL n5,atI_nat (j:=0) rfl,fin p.1.1 _ SB.refl ⟨Xt hR.1,fun x=>?_⟩⟩;rw [We,hR.2,Yg,ep,Yj,List.mem_append];simp [or_comm]
 ·rw [ul,Yh] at hR;have sl:ss.length<=60:=by
   have:=hR.1.length_le_of_subset (l₂:=ns) fun x hx=>by
    obtain ⟨p,hp,e⟩:=Qx ((hR.2 x).mp hx);rw [<- e]; exact hk p hp
   omega
  refine ⟨D,ss,Ja,aV,by omega,fun Ar p pm srt np=>?_⟩;have t3:=Jb np (.lst (Ar.map V.str));exact q p Ar _ ((s1.trans s2).trans t3) ((s1.trans s2).kU _ np) Qt (.perm pm srt hR.1 hR.2) (by rw [pm.length_eq]; omega)
theorem ziy:FnScope [ah] [ah] (defScope HQ):=fS
theorem zhp (B:BI mg) (G:Got P w K mg base bf [ah] n (BC K n)) (F:Fun K iy iy HQ f fd):FnOk P w K mg base CX0 (n+1) f fd [ah] (Xh K n):=by
 refine F.ok ziy (fun vs H Q E h=>?_) (fun _ A _ _ H vs Q E hr h=>?_)
 ·obtain ⟨v,g,rfl,_⟩:=h
  rfl
 obtain ⟨v,g,rfl,hg,hd,hp,q⟩:=h;refine ⟨_,Qe (Qj (Qs call_len_seq rfl B.len PySem.boot_len (Qa (aT G hr rfl (Qa (pv 0) Qb)) Qb))),?_⟩;refine ⟨_,Ja,v,g,Ja,hg,hd,hp,fun D us H2 s2 _ hD hb=>?_⟩;refine ⟨D,us,Ja,.inl (SqL.of hD),?_⟩;rw [hb.length,g.bK];exact q _ s2
abbrev WG:List Str:=[ah,bN,a9]
theorem p9:FnScope WG [ah] (defScope Fj):=fS
theorem zhb (B:BI mg) (G:Got P w K mg base gD [ah] n (FG K n)) (F:Fun K gD gD Fj f fd):FnOk P w K mg base CX0 (n+1) f fd [ah] (FG K (n+1)):=by
 refine F.ok p9 (fun vs H Q E h=>?_) (fun _ A _ _ H vs Q E hr h=>?_)
 ·obtain ⟨v,g,rfl,_⟩:=h
  rfl
 obtain ⟨v,g,rfl,hg,hd,hp,q⟩:=h;refine ⟨_,Qc (Qr (Qp (pt_truth (pv 0) (by intro _; rfl))) (Qe (Qj Qg)) pss_nil) (Qe (Qj (pe_op Ko Qg (Qs (cr_max rfl) rfl B.max boot_max (Qa
  (pe_lc (own:=[(bN,1),(a9,2)]) (g:=zkk K) (tt:=tYes) (te:=(tCall (FG K n) [] E0 (tCons (tOp (rIxT K) (tVar 1) (tC (.int 1))) tNil))) rfl p9.nd
   (pi_tup (pv 0))
   (blkOk_by (N:=WG) (sc:=defScope Fj) (by decide +kernel))
   (fun _ _ _ _ _=>pg_tup rfl (Qi (pg_name (i:=1) p9.nd rfl (.inl rfl)) (Qi (pg_name (i:=2) p9.nd rfl (.inl rfl)) pgs_nil)))
   (fun _ _ _ _ _=>pts_nil)
   (fun _ _ _ _ _=>(aT G hr rfl (Qa (Qm Ql (pv 1) Qg (fun _ _=>rfl)) Qb)))) Qb))))),?_⟩
 obtain ⟨a,xs,rfl,hs,hb⟩:=nH hg;have bl:=hb.length;refine ⟨_,Ja,_,.inr (.inl ⟨xs,hs,Ja⟩),?_⟩;cases ex:xs with
 | nil =>
  refine iteT ?_;have e0:g.deep=0:=by
   cases g with
   | nil=>rfl
   | cons k g m r=>rw [ex] at bl; simp [Gr.ps] at bl
  have:=q H SB.refl;rw [e0] at this;exact this
 | cons x0 xr =>
 refine iteF ?_;refine ⟨_,Ja,a,Ja,⟨xs,hs⟩,fun D hD=>?_⟩;have hz:=g.aF;refine lc_it (walk_tup (xs:=xs)) (fun i H2=>SB [D] H H2/\H2 D=some (.lst (((g.ps.take i).map fun p=>(p.1.2.deep:Int)).map V.int))) ⟨SB.new hD _,Qt⟩ (fun i H2 hi h2=>(h2.1.drop hD).aL hs) (fun i x H2 H' hi h2 y=>?_) (fun H2 h2=>?_)
 ·obtain ⟨h2,h3⟩:=h2;obtain ⟨rfl,ex⟩:=y;obtain ⟨p,ep,fz⟩:=hb.get ex;have pm:=Qu ep;obtain ⟨ad,td,ux,rfl,dM,n5,i3,_⟩:=nP fz;have h4:=h2.drop hD;have m1:=g.av p pm;have m2:=g.bu p pm;refine ⟨ad,_,Ja,h4.aL dM,Ja,_,_,Ja,_,_,Ja,Ja,Ja,?_⟩;refine ⟨_,Ja,td,_,_,_,Ja,Ja,h4.aL n5,atI_nat (j:=1) rfl,ux,p.1.2,Ja,i3.sb h4,by omega,by omega,fun H5 h5=>?_⟩;have h6:=h5.keep _ _ h3 aP;refine ⟨_,h6,?_,?_⟩
  ·rw [Ye,Ye,Kx];exact Fv (by omega)
  ·refine ⟨(h2.trans h5.nil).trans (SB.set h6 (by simp) _),?_⟩;rw [Qt,Yg,ep];simp
 ·obtain ⟨h2,h3⟩:=h2;rw [bl,Yh] at h3;refine ⟨D,_,Ja,SqL.of h3,?_,fun m hm hy=>?_⟩
  ·rw [Ye,<- bl,ex]; simp
  refine ⟨_,_,Ja,Ja,?_⟩;show Q (.int (1+m)) H2;rw [Gr.zf g m hm hy];exact q _ (h2.drop hD)
abbrev zli:List Str:=[aq,aO]
theorem zg7:FnScope zli [aq,aO] (defScope GY):=fS
theorem zhy {eR ae aw:Addr} (B:BI mg) (iR:mg "NO_GROVES"=some (.ref eR)) (iQ:∀ H,Dp K H (.ref eR) (Ru.enc (.nil,.nil))) (ET:z2n P w K mg base ae "rules" [a8,aO] (4) (N9 K ae aw)) (F:Fun K bw bw GY f fd):FnOk P w K mg base (L2.CX P w) (5) f fd [aq,aO] (P5 K ae aw):=by
 refine F.okX zg7 (fun vs H Q E h=>?_) (fun _ A _ _ H vs Q E hr h=>?_)
 ·obtain ⟨v,b,n,rfl,_⟩:=h
  rfl
 obtain ⟨v,b,n,rfl,hb,hl,Si,qk,qE⟩:=h;have bA:=bt hr;refine ⟨_,Qe (Qj (pe_op op_cat (pe_lst (Qa (pe_glob (v:=.ref eR) rfl iR rfl) Qb)) (Wq ET (Hm hr) (takes_of rfl rfl rfl rfl) (pv 0) (Qa (pv 1) Qb)))),?_⟩;have jy:=sizeLine_eq;obtain ⟨va,xW,Iz,Iy,rfl,yJ⟩:=hb.at;refine ⟨lH,fun L hL=>?_⟩;have t1:=Jb hL (.lst [.ref eR]);have Zy:=eZ t1;generalize upd H L _=H1 at t1 Zy;refine ⟨_,Ja,va,xW,_,Ja,t1.keep _ _ yJ aP,Ja,_,Ja,_,b,n,Ja,hb.ef t1,hl,Si,fun k eg ll us H2 s2 FZ xa qZ=>?_,fun z d H' s' nd hd=>qE z d H' (t1.trans s') (t1.kU d nd) hd⟩;have k4:=Si k (Bk.get_some eg).1;have ul:=qZ.length;refine ⟨L,ll,_,_,Ja,Ja,s2.keep _ _ Zy aP,xa,by show 1+_<=sizeLine; omega,fun M hM=>?_⟩;have t3:=Jb hM (.lst ([.ref eR]++us));have s3:=t1.trans s2;exact qk k eg M _ _ (s3.trans t3) (s3.kU _ hM) Qt (.cons (iQ _) (qZ.sb t3 Ru.aj))
abbrev zlg:List Str:=[aq,aO]
theorem zg5:FnScope zlg [aq,aO] (defScope Hn):=fS
theorem zi6 {aw ae:Addr} (B:BI mg) (nj:OwnI P w K mg base "NoKind" aw 1) (zQ:GotM P w K mg base ae eF [a8] (1) (Il K ae)) (F:Fun K cN cN Hn f fd):FnOk P w K mg base (L2.CX P w) (3) f fd [aq,aO] (Oa K ae aw):=by
 refine F.okX zg5 (fun vs H Q E h=>?_) (fun _ A _ _ H vs Q E hr h=>?_)
 ·obtain ⟨v,b,n,rfl,_⟩:=h
  rfl
 obtain ⟨v,b,n,rfl,hb,hl,qk,qE⟩:=h;refine ⟨_,Qe (Qr (pt_cmpR op_notIn_seq (pv 1) (QA zQ (Hm hr) (pv 0)) (by rfl)) (Qe (ps_raise rfl (takes_of rfl rfl rfl rfl) (WC nj (Hm hr) rfl (pv 1)))) pss_nil),?_⟩;obtain ⟨a,dx,d1,d2,rfl,h1⟩:=hb.at;refine ⟨_,Ja,_,Ja,a,dx,_,Ja,h1,Ja,?_⟩;refine ⟨_,b,Ja,hb,hl,fun l H1 s1 hn i7=>?_⟩;refine ⟨l,_,Ja,.inl (SqL.of i7),Ja,FQ _,_,Ja,?_⟩;rw [FH,Bk.uJ];cases e:b.get n with
 | some k=>exact qk k e H1 s1
 | none=>exact ⟨_,Ja,fun d hd=>qE e d _ (s1.trans (SB.new hd _)) (s1.kU d hd) Qt⟩
abbrev zmi:List Str:=[aq,ah,"kind"]
theorem x9:FnScope zmi [aq,ah] (defScope HH):=fS
theorem ziv {ae aw:Addr} (B:BI mg) (zH:Got P w K mg base cB [ah] (71) (P6 K)) (sV:GotX P w K mg base cN [aq,aO] (3) (Oa K ae aw)) (F:Fun K d3 d3 HH f fd):FnOk P w K mg base (L2.CX P w) (72) f fd [aq,ah] (Xm K ae aw):=by
 refine F.okX x9 (fun vs H Q E h=>?_) (fun _ A _ _ H vs Q E hr h=>?_)
 ·obtain ⟨v,w,b,g,ns,rfl,_⟩:=h
  rfl
 obtain ⟨v,w,b,g,ns,rfl,hv,hg,hl,hd,hp,hk,hn,q,qE⟩:=h;have bA:=bt hr;refine ⟨_,Qe (ps_for (passes_of rfl) rfl (pi_list (aT zH (Hm hr) rfl (Qa (pv 1) Qb))) (pg_name (i:=2) x9.nd rfl (.inl rfl))
   (Qe (Kf (tH sV (Hm hr) rfl (takes_of rfl rfl rfl rfl) (Qa (pv 0) (Qa (pv 2) Qb)))))),?_⟩
 refine ⟨_,Ja,w,g,ns,Ja,hg,hd,hp,hk,hn,fun l ss H1 s1 nl Y6 so sl=>?_⟩;refine ⟨l,Ja,⟨_,SqL.of Y6⟩,?_⟩;refine for_it (walk_list (xs:=ss.map V.str)) (fun i σ H2=>SB [] H1 H2/\(∀ m ∈ ss.take i,¬ (m ∉ b.names))/\∃ o2,σ=[some v,some w,o2]) ⟨SB.refl,by simp,none,Ja⟩ (fun i σ H2 hi h2=>h2.1.fO aP (SqL.of Y6)) (fun i x σ Hq H2 hi h2 y=>?_) (fun σ H2 h2=>?_)
 ·obtain ⟨s2,zr,o2,rfl⟩:=h2;obtain ⟨rfl,ey⟩:=y;rw [List.getElem?_map] at ey;obtain ⟨k,ek,rfl⟩:=Kr ey;have lC:=s1.trans s2;refine ⟨_,Ja,_,Ja,v,b,k,Ja,hv.ef lC,by omega,fun kd e H3 s3=>⟨s2.trans s3,fun m hm=>?_,_,Ja⟩,fun z d H3 s3 nd Kg=>qE k (.at so ek (fun hm=>?_) zr) d H3 (lC.trans s3) (lC.kU _ nd) Kg⟩
  ·rw [Yg,ek] at hm;rcases Qw hm with z | z
   ·exact zr m z
   ·rw [Qy z];exact fun z=>z (Ku ⟨kd,(Bk.get_some e).1,(Bk.get_some e).2⟩)
  ·obtain ⟨kd,e⟩:=Bk.dw hm;rw [e] at z; cases z
 ·obtain ⟨s2,zr,o2,rfl⟩:=h2;rw [Ye,Yh] at zr;exact q (fun x hx=>Classical.byContradiction fun z=>zr x.1.1 ((so.mem _).mpr (Ku ⟨x,hx,Ja⟩)) z) _ (s1.trans s2)
abbrev Po:List Str:=[cA,aA,eF,aZ]
theorem iG:FnScope Po [cA] (defScope CO):=fS
theorem zgs (B:BI mg) (g8:∃ t,mg "MOST_KINDS"=some (.int (8) t)) (MY:Got P w K mg base kg [aA] (86) (WU K)) (MU:Got P w K mg base fe [aZ,eF] (71) (QI K)) (F:Fun K gE gE CO f fd):FnOk P w K mg base CX0 (87) f fd [cA] (Xy K):=by
 refine F.ok iG (fun vs H Q E h=>?_) (fun _ A _ _ H vs Q E hr h=>?_)
 ·obtain ⟨l,xs,ts,rfl,_⟩:=h
  rfl
 obtain ⟨l,xs,ts,rfl,hs,ha,hf,hl,q⟩:=h;obtain ⟨zX,qG⟩:=g8;have bA:=bt hr;refine ⟨_,Qc (Qr (Qp (pt_chain op_le op_le Qg (Qs call_len_seq rfl B.len PySem.boot_len (Qa (pv 0) Qb)) (pe_glob (v:=.int (8)) rfl qG ⟨_,Ja⟩))) (Qe (Qj pe_bl)) pss_nil)
  (Qc (ps_for PassesOwn.never rfl (pi_list (pv 0)) (pg_name (i:=1) iG.nd rfl (.inl rfl))
   (Qe (Qr (Qp (Qo (aT MY (Hm hr) rfl (Qa (pv 1) Qb)))) (Qe (Qj pe_bl)) pss_nil)))
  (Qc (ps_set (i:=2) iG.nd rfl (.inr rfl) (pe_lc (own:=[(aA,1)]) (g:=(gName 1)) (tt:=tYes) (te:=(tOp (rIxT K) (tVar 1) (tC (.int 0)))) rfl iG.nd (pi_list (pv 0)) (blkOk_by (N:=Po) (sc:=defScope CO) (by decide +kernel)) (fun _ _ _ _ _=>(pg_name (i:=1) iG.nd rfl (.inl rfl))) (fun _ _ _ _ _=>pts_nil) (fun _ _ _ _ _=>(Qm Ql (pv 1) Qg (fun _ _=>rfl)))))
  (Qc (Qr (pt_cmpR op_ne (zb8 rfl B rfl rfl (pv 2)) (Qs call_len_seq rfl B.len PySem.boot_len (Qa (pv 2) Qb)) (nomark _)) (Qe (Qj pe_bl)) pss_nil)
  (Qe (Qj (Qs (cr_all rfl) rfl B.all boot_all (Qa (pe_lc2 (own:=[(aA,1),(aZ,3)]) (vs1:=[3]) (wi1:=(iList K (tOp (rIxT K) (tVar 1) (tC (.int 2))))) (g:=(gName 1)) (g1:=(gName 3)) (tt:=tYes) (tt1:=tYes) (te:=(tCall (QI K) [] E0 (tCons (tVar 3) (tCons (tVar 2) tNil)))) rfl iG.nd (pi_list (pv 0)) (blkOk_by (N:=Po) (sc:=defScope CO) (by decide +kernel)) (by simp) (fun _ _ _ _ _=>(pg_name (i:=1) iG.nd rfl (.inl rfl))) (fun _ _ _ _ _=>pts_nil) (fun _ _ _ _ _=>(pi_list (Qm Ql (pv 1) Qg (fun _ _=>rfl)))) (fun _ _ _ _ _=>(pg_name (i:=3) iG.nd rfl (.inl rfl))) (fun _ _ _ _ _=>pts_nil) (fun _ _ _ _ _=>(aT MU (Hm hr) rfl (Qa (pv 3) (Qa (pv 2) Qb))))) Qb))))))),?_⟩
 have no:¬ EN ts->∀ H',SB [] H H'->Q (.bl false) H':=fun e H' s'=>q false H' s' ⟨(fun z=>nomatch z),fun z=>absurd z e⟩;have pL:=ha.length;have jy:=sizeLine_eq;refine ⟨_,Ja,l,xs,Ja,.inl hs,_,_,Ja,Ja,_,Ja,?_⟩;refine ite2 (fun c=>?_) (fun c=>?_)
 ·have c1:=Ks c;refine ⟨_,_,Ja,Ja,_,Ja,?_⟩;cases c8:decide (((xs.length:Nat):Int)<=8) with
  | false =>
   have c2:=of_decide_eq_false c8;refine iteT (no ?_ _ SB.refl)
   rintro ⟨b,e,ok⟩
   have:=ok.len;rw [e,Ye] at pL;omega
  | true =>
  refine iteF ?_;have c2:=Ks c8;refine ⟨_,Ja,l,Ja,⟨xs,hs⟩,?_⟩;refine for_list (K:=K) (a:=l) (xs:=xs) (fun i σ H2=>SB [] H H2/\(∃ o,σ=[some (.ref l),o,none,none])/\∀ t ∈ ts.take i,zD t) ⟨SB.refl,⟨none,Ja⟩,by simp⟩ (fun i σ H2 hi h2=>h2.1.fO aP hs) (fun i x σ H2 hx h2=>?_) (fun σ H2 h2=>?_)
  ·obtain ⟨h2,⟨o,rfl⟩,h3⟩:=h2;obtain ⟨t,et,ht⟩:=ha.get hx;have mt:=Qu et;refine ⟨_,Ja,x,t,Ja,Vx h2 ht,hf t mt,fun b H3 s3 hb=>?_⟩;refine ⟨_,Ja,?_⟩;cases b with
   | false =>
    refine iteT (no ?_ _ (h2.trans s3))
    rintro ⟨bk,e,ok⟩
    rw [e] at mt;obtain ⟨k,hk,rfl⟩:=Qx mt;obtain ⟨o1,o2,o3⟩:=ok.kd k hk;exact nomatch hb.mpr ⟨k,rfl,o1,o2,fun r hr=>(o3 r hr).1⟩
   | true =>
    refine iteF ⟨h2.trans s3,⟨_,Ja⟩,fun t' YU=>?_⟩;rw [Yg,et,Option.toList_some] at YU;rcases Qw YU with h | h
    ·exact h3 t' h
    ·rw [Qy h]; exact hb.mp rfl
  ·obtain ⟨h2,⟨o,rfl⟩,h3⟩:=h2;rw [pL,Yh] at h3;obtain ⟨bk,et,hk⟩:=VF h3;subst et;rw [Ye] at pL;have xK:=(ha.sb h2).kd;have dM:=h2.fO aP hs;refine ⟨_,Ja,l,Ja,⟨xs,dM⟩,fun D hD=>?_⟩;refine oo (walk_list (xs:=xs)) hD (by omega) (fun i us _=>us=((Bk.names bk).take i).map V.str) rfl (fun H6 s6=>s6.fO aP dM) (fun _ _ _ _ _ h=>h) (fun Pv i x H6 H' us hi s6 y hR Sy fin _=>?_) (fun us H6 s6 ie hR _=>?_)
   ·obtain ⟨rfl,ex⟩:=y;obtain ⟨k,ek,t,r,zs,rfl,g1,g2,g3,_⟩:=xK.get ex;refine ⟨rfl,_,Ja,t,_,_,_,Ja,Ja,s6.aL g1,atI_nat (j:=0) rfl,fin _ _ SB.refl ?_⟩;rw [hR,Yg,List.getElem?_map,ek,Option.map_some,Option.toList_some,Yj]; rfl
   ·rw [pL,show (Bk.names bk).take bk.length=Bk.names bk by rw [List.take_of_length_le (by simp)]] at hR;subst hR;have BK:=h2.trans s6;refine ⟨_,Ja,D,Bk.names bk,Ja,SqL.of ie,by rw [Ye]; omega,?_⟩;refine ⟨_,Ja,D,_,Ja,.inl (SqL.of ie),Ja,_,Ja,?_⟩;have Gb:=z8f (Bk.names bk);rw [show (List.map V.str (Bk.names bk)).length=(Bk.names bk).length from List.length_map ..];by_cases nd:(Bk.names bk).Nodup
    ·rw [Gb.mpr nd,show (!decide (V.int ((Bk.names bk).length:Nat)=V.int ((Bk.names bk).length:Nat)))=false by simp];refine iteF ?_;have ha6:=xK.sb s6 d6.nil;have YV:=s6.fO aP dM;refine ⟨_,Ja,l,Ja,⟨xs,YV⟩,fun E1 Gi=>?_⟩;refine DD (walk_list (xs:=xs)) (fun i H2=>SB [E1] H6 H2/\∃ bs:List Bool,H2 E1=some (.lst (bs.map V.bl))/\bs=((bk.take i).flatMap fun k=>k.rs.map fun r=>decide (∀ p ∈ Ru.within r,p.1.1 ∈ Bk.names bk))) ⟨SB.new Gi _,[],Qt,Ja⟩ (fun i H2 hi h2=>(h2.1.drop Gi).fO aP YV) (fun i x H2 H' hi h2 y=>?_) (fun H2 h2=>?_)
     ·obtain ⟨s7,bs,O3,uG⟩:=h2;obtain ⟨rfl,ex⟩:=y;obtain ⟨k,ek,t,r,zs,rfl,g1,g2,g3,_⟩:=ha6.get ex;have mk:=Qu ek;have zl:=g3.length;have r4:=(hk k mk).2.1;have QX:=s7.drop Gi;refine ⟨rfl,?_⟩;refine ⟨_,Ja,t,_,_,_,Ja,Ja,QX.aL g1,atI_nat (j:=2) rfl,r,Ja,⟨zs,SqL.of (QX.keep _ _ g2 aP)⟩,?_⟩;have iL:((bk.take (i+1)).flatMap fun k=>k.rs.map fun r=>decide (∀ p ∈ Ru.within r,p.1.1 ∈ Bk.names bk))=((bk.take i).flatMap fun k=>k.rs.map fun r=>decide (∀ p ∈ Ru.within r,p.1.1 ∈ Bk.names bk))++k.rs.map fun r=>decide (∀ p ∈ Ru.within r,p.1.1 ∈ Bk.names bk):=by rw [Yg,ek]; simp
      have hlen:bs.length<=4*i:=by
       rw [uG];clear uG O3 s7 QX iL ex ek
       induction i with
       | zero=>simp
       | succ i ih =>
        rw [Yg,List.flatMap_append,Yf];have:=ih (by omega);cases e:bk[i]? with
        | none=>simp only [Option.toList_none,List.flatMap_nil,List.length_nil]; omega
        | some k2 =>
         have:=(hk k2 (Qu e)).2.1;simp only [Option.toList_some,List.flatMap_cons,List.flatMap_nil,Kz,Ye]; omega
      refine DD (walk_list (xs:=zs)) (fun j H3=>SB [E1] H6 H3/\∃ Gm:List Bool,H3 E1=some (.lst (Gm.map V.bl))/\Gm=bs++((k.rs.take j).map fun r=>decide (∀ p ∈ Ru.within r,p.1.1 ∈ Bk.names bk))) ⟨s7,bs,O3,by simp⟩ (fun j H3 hj h3=>(h3.1.drop Gi).fO aP (SqL.of g2)) (fun j x H3 H4 hj h3 y=>?_) (fun H3 h3=>?_)
      ·obtain ⟨s8,Gm,To,Bb⟩:=h3;obtain ⟨rfl,Pc⟩:=y;obtain ⟨ru,er,hru⟩:=g3.get Pc;have X7:=s8.drop Gi;have mr:=Qu er;refine ⟨rfl,?_⟩;refine ⟨_,Ja,_,Ja,_,D,ru,Bk.names bk,Ja,cI X7 _ _ (Ru.aj _) hru,(hk k mk).2.2 ru mr,SqL.of (X7.keep _ _ ie aP),by rw [Ye]; omega,fun H9 s9=>?_⟩;have Zz:=s9.keep _ _ To aP;refine ⟨_,Zz,?_,(s8.trans s9.nil).trans (SB.set Zz (by simp) _),Gm++[decide (∀ p ∈ Ru.within ru,p.1.1 ∈ Bk.names bk)],(by rw [Qt,Yj]; rfl),?_⟩
       ·rw [Ye,Bb,Yf,Ye,Kx];omega
       ·rw [Bb,Yg,er,Option.toList_some,Yj,<- List.append_assoc];exact rfl
      ·obtain ⟨s8,Gm,To,Bb⟩:=h3;refine ⟨s8,Gm,To,?_⟩;rw [iL,Bb,uG,zl,Yh]
     ·obtain ⟨s7,bs,O3,uG⟩:=h2;rw [pL,Yh] at uG;refine ⟨E1,bs,Ja,SqL.of O3,q _ _ (BK.trans (s7.drop Gi)) ?_⟩;rw [uG];simp only [List.all_flatMap,List.all_map,List.all_eq_true,Function.comp,id_eq,decide_eq_true_eq];constructor
      ·intro h;exact ⟨bk,Ja,by omega,by omega,nd,fun k mk=>⟨(hk k mk).1,(hk k mk).2.1,fun r mr=>⟨(hk k mk).2.2 r mr,h k mk r mr⟩⟩⟩
      ·rintro ⟨b2,e2,ok⟩ k mk r mr
       have e3:=PV e2;subst e3;exact ((ok.kd k mk).2.2 r mr).2
    ·rw [show (!decide (V.int ((met (Bk.names bk) (Bk.names bk).length).length:Nat)=V.int ((Bk.names bk).length:Nat)))=true by
      rw [Qz (fun z=>by injection z with z; exact nd (Gb.mp (by omega)))]; rfl]
     refine iteT (no ?_ _ BK)
     rintro ⟨b2,e2,ok⟩
     have e3:=PV e2;subst e3;exact nd ok.nd
 ·have c1:=of_decide_eq_false (Bool.eq_false_iff.mpr c);refine ⟨_,Ja,?_⟩;refine iteT (no ?_ _ SB.refl)
  rintro ⟨b,e,ok⟩
  have:=ok.pos;rw [e,Ye] at pL;omega
abbrev U7:List Str:=[aA,aO,"spreading","rows","row"]
theorem kH:FnScope U7 [aA] (defScope EW):=fS
theorem zfy (B:BI mg) (g7:∃ t,mg "MOST_RULES"=some (.int (4) t)) (MW:Got P w K mg base iz [aA] (2) (Pr K)) (MV:Got P w K mg base kc [aA] (85) (P2 K)) (F:Fun K kg kg EW f fd):FnOk P w K mg base CX0 (86) f fd [aA] (WU K):=by
 refine F.ok kH (fun vs H Q E h=>?_) (fun _ A _ _ H vs Q E hr h=>?_)
 ·obtain ⟨v,t,rfl,_⟩:=h
  rfl
 obtain ⟨v,t,rfl,th,hf,q⟩:=h;obtain ⟨zW,qF⟩:=g7;have bA:=bt hr;refine ⟨_,Qc (Qr (PW.pt (Kk (Qp (Qo (tF B (pv 0) B.tuple boot_tuple))) (pw_or1 (pt_cmpR op_ne (Qs call_len_seq rfl B.len PySem.boot_len (Qa (pv 0) Qb)) Qg (nomark _))))) (Qe (Qj pe_bl)) pss_nil)
  (Qc (ps_asg (pv 0) (pg_tup rfl (Qi (pg_name (i:=1) kH.nd rfl (.inl rfl)) (Qi (pg_name (i:=2) kH.nd rfl (.inl rfl)) (Qi (pg_name (i:=3) kH.nd rfl (.inl rfl)) pgs_nil)))))
  (Qc (Qr (PW.pt (Kk (Qp (Qo (aT MW (Hm hr) rfl (Qa (pv 1) Qb)))) (pw_or1 (Qp (Qo (tF B (pv 2) B.bool boot_bool)))))) (Qe (Qj pe_bl)) pss_nil)
  (Qe (Qj (pe_and (tF B (pv 3) B.list boot_list) (pe_and (pe_cmpR op_le (Qs call_len_seq rfl B.len PySem.boot_len (Qa (pv 3) Qb)) (pe_glob (v:=.int (4)) rfl qF ⟨_,rfl⟩) (nomark _)) (pe_one (Qs (cr_all rfl) rfl B.all boot_all (Qa (pe_lc (own:=[("row",4)]) (g:=(gName 4)) (tt:=tYes) (te:=(tCall (P2 K) [] E0 (tCons (tVar 4) tNil))) rfl kH.nd (pi_list (pv 3)) (blkOk_by (N:=U7) (sc:=defScope EW) (by decide +kernel)) (fun _ _ _ _ _=>(pg_name (i:=4) kH.nd rfl (.inl rfl))) (fun _ _ _ _ _=>pts_nil) (fun _ _ _ _ _=>(aT MV (Hm hr) rfl (Qa (pv 4) Qb)))) Qb))))))))),?_⟩
 have no:¬ zD t->∀ H',SB [] H H'->Q (.bl false) H':=fun e H' s'=>q false H' s' ⟨(fun z=>nomatch z),fun z=>absurd z e⟩;cases t with
 | other =>
  have n0:¬ zD .other:=by rintro ⟨k,e,_⟩; cases e
  obtain ⟨d,tg,hd⟩:=th;obtain ⟨n1,b,ty,kb,y1,y2⟩:=tg.ty;refine ⟨_,Ja,_,_,n1,b,Ja,ty,kb,b,Ja,?_⟩;cases b with
  | false=>exact iteT (iteT (no n0 _ SB.refl))
  | true =>
  refine iteF ?_;obtain ⟨a,xs,ds,rfl,rfl,hs,ha⟩:=y1 rfl;refine ⟨_,Ja,a,xs,Ja,.inr hs,Ja,_,Ja,?_⟩;have hl:=TgAll.length ha;have h3:=hd ds rfl;rw [show (!decide (V.int (xs.length:Nat)=V.int 3))=true by rw [Qz (fun z=>by injection z with z; omega)]; rfl];exact iteT (no n0 _ SB.refl)
 | three d w rs =>
  obtain ⟨a,x,y,z,rfl,hs,tx,ty,tz⟩:=th;refine ⟨_,rfl,_,_,"tuple",true,rfl,xy hs,by decide +kernel,_,rfl,?_⟩;refine iteF ?_;refine ⟨_,Ja,a,_,Ja,.inr hs,Ja,_,Ja,?_⟩;rw [show (!decide (V.int (([x,y,z]:List V).length:Nat)=V.int 3))=false from rfl];refine iteF ?_;refine ⟨_,Ja,a,_,Ja,hs,Ja,_,_,Ja,_,_,Ja,_,_,Ja,Ja,?_⟩;refine ⟨_,Ja,x,d,Ja,tx,fun H1 s1=>?_⟩;refine ⟨_,Ja,?_⟩;cases g1:vV d with
  | false =>
   refine iteT (iteT (no ?_ _ s1))
   rintro ⟨k,e,hk,_⟩
   injection e with e _ _
   rw [e,Wk hk] at g1;cases g1
  | true =>
  refine iteF ?_;obtain ⟨nm,rfl,hnm⟩:=QF g1;cases w with
  | none =>
   obtain ⟨n,ty,kb⟩:=ty;refine ⟨_,Ja,_,_,n,false,Ja,CP s1 (fun _ _=>aP) ty,kb,_,Ja,?_⟩;refine iteT (no ?_ _ s1)
   rintro ⟨k,e,_⟩
   injection e with _ e _
   cases e
  | some bb =>
  have ty:y=.bl bb:=ty;subst ty;refine ⟨_,rfl,_,_,"bool",true,rfl,.base (.bl bb),by decide +kernel,_,rfl,?_⟩;refine iteF ?_;cases rs with
  | none =>
   obtain ⟨n,ty,kb⟩:=tz;refine ⟨_,Ja,_,_,n,false,Ja,CP s1 (fun _ _=>aP) ty,kb,_,Ja,?_⟩;refine iteF (no ?_ _ s1)
   rintro ⟨k,e,_⟩
   injection e with _ _ e
   cases e
  | some ds =>
  obtain ⟨l,zs,rfl,hl,ha⟩:=tz;obtain ⟨sA,hd2⟩:=hf ds rfl;refine ⟨_,rfl,_,_,"list",true,rfl,Vv (s1.fO aP (SqL.of hl)),by decide +kernel,_,rfl,?_⟩;refine iteT ?_;have hlen:=TgAll.length ha;refine ⟨_,Ja,l,_,Ja,.inl (s1.fO aP (SqL.of hl)),_,_,Ja,Ja,_,Ja,?_⟩;refine ite2 (fun c=>?_) (fun c=>?_)
  ·have c1:=Ks c;rw [hlen] at c1;have jy:=sizeLine_eq;refine ⟨_,Ja,l,Ja,⟨_,s1.fO aP (SqL.of hl)⟩,fun D hD=>?_⟩;refine oo (walk_list (xs:=zs)) hD (by omega) (fun i us _=>∃ bs:List Bool,us=bs.map V.bl/\bs.length=i/\∀ j b,bs[j]?=some b->∀ x,ds[j]?=some x->(b=true ↔ EK x)) ⟨[],Ja,Ja,fun j b h=>by rw [List.getElem?_nil] at h; cases h⟩ (fun H6 s6=>s6.fO aP (s1.fO aP (SqL.of hl))) (fun _ _ _ _ _ h=>h) (fun Pv i x H6 H' us hi s6 y hR Sy fin _=>?_) (fun us H6 s6 ie hR _=>?_)
   ·obtain ⟨rfl,ex⟩:=y;obtain ⟨p,ep,hp⟩:=TgAll.get ha ex;obtain ⟨bs,rfl,qZ,uG⟩:=hR;refine ⟨rfl,_,Ja,x,p,Ja,zR (s1.trans s6) hp,hd2 _ (Qu ep),fun b H7 s7 hb=>fin _ _ s7 ⟨bs++[b],by rw [Yj]; rfl,by rw [Yf,qZ]; rfl,fun j b' hj y hy=>?_⟩⟩;by_cases hji:j < bs.length
    ·rw [List.getElem?_append_left hji] at hj;exact uG j b' hj y hy
    ·have hj':j=bs.length:=by
      have:=(Kq hj).1;rw [Yf,Yi] at this;omega
     subst hj';rw [List.getElem?_append_right (Yc _),Nat.sub_self] at hj;cases hj;rw [qZ,ep] at hy;cases hy;exact hb
   ·obtain ⟨bs,rfl,qZ,uG⟩:=hR;refine ⟨D,bs,Ja,SqL.of ie,q _ _ (s1.trans s6) ?_⟩;have h1:(bs.all id=true) ↔ ∀ x ∈ ds,EK x:=by
     rw [List.all_eq_true];constructor
     ·intro h x hx;obtain ⟨j,hj,e⟩:=List.getElem_of_mem hx;have JQ:j < bs.length:=by omega
      exact (uG j bs[j] (Kp JQ) x (by rw [Kp hj,e])).mp (h _ (List.getElem_mem JQ))
     ·intro h b hb;obtain ⟨j,hj,e⟩:=List.getElem_of_mem hb;have JQ:j < ds.length:=by omega
      exact (uG j b (by rw [Kp hj,e]) ds[j] (Kp JQ)).mpr (h _ (List.getElem_mem JQ))
    rw [h1];constructor
    ·intro h;obtain ⟨rr,e1,e2⟩:=V9 h;exact ⟨⟨nm,bb,rr⟩,by rw [Kd.kt,e1],hnm,by rw [e1,Ye] at c1; show rr.length<=4; omega,e2⟩
    ·rintro ⟨k,e,_,_,hk⟩ x hx
     injection e with _ _ e
     injection e with e
     rw [e] at hx;obtain ⟨r,hr,rfl⟩:=Qx hx;exact ⟨r,Ja,hk r hr⟩
  ·have c1:=of_decide_eq_false (Bool.eq_false_iff.mpr c);rw [hlen] at c1;refine no ?_ _ s1
   rintro ⟨k,e,_,h4,_⟩
   injection e with _ _ e
   injection e with e
   rw [e,Ye] at c1;omega
abbrev UY:List Str:=[aA,"once","each",eE,bN,a9]
theorem jf:FnScope UY [aA] (defScope E5):=fS
theorem zhn (B:BI mg) (dW:∃ t,mg "MOST_RULE_PARTS"=some (.int (4) t)) (iT:∃ t,mg "MOST_MANY"=some (.int (1000000000) t)) (CF:Got P w K mg base dO [aA] (84) (FP K 81)) (nv:Got P w K mg base bf [ah] (70) (BC K 70)) (F:Fun K kc kc E5 f fd):FnOk P w K mg base CX0 (85) f fd [aA] (P2 K):=by
 refine F.ok jf (fun vs H Q E h=>?_) (fun _ A _ _ H vs Q E hr h=>?_)
 ·obtain ⟨v,d,rfl,_⟩:=h
  rfl
 obtain ⟨v,d,rfl,th,hf,q⟩:=h;obtain ⟨tN,j0⟩:=dW;obtain ⟨Ak,sF⟩:=iT;have bA:=bt hr;refine ⟨_,Qc (Qr (PW.pt (Kk (Qp (Qo (tF B (pv 0) B.tuple boot_tuple))) (pw_or1 (pt_cmpR op_ne (Qs call_len_seq rfl B.len PySem.boot_len (Qa (pv 0) Qb)) Qg (nomark _))))) (Qe (Qj pe_bl)) pss_nil)
  (Qc (ps_asg (pv 0) (pg_tup rfl (Qi (pg_name (i:=1) jf.nd rfl (.inl rfl)) (Qi (pg_name (i:=2) jf.nd rfl (.inl rfl)) pgs_nil))))
  (Qc (Qr (PW.pt (Kk (Qp (Qo (aT CF (Hm hr) rfl (Qa (pv 1) Qb)))) (pw_or1 (Qp (Qo (aT CF (Hm hr) rfl (Qa (pv 2) Qb))))))) (Qe (Qj pe_bl)) pss_nil)
  (Qc (ps_set (i:=3) jf.nd rfl (.inl rfl) (pe_op op_cat (aT nv (Hm hr) rfl (Qa (pv 1) Qb)) (aT nv (Hm hr) rfl (Qa (pv 2) Qb))))
  (Qe (Qj (pe_and (pe_cmpR op_le (Qs call_len_seq rfl B.len PySem.boot_len (Qa (pv 3) Qb)) (pe_glob (v:=.int (4)) rfl j0 ⟨_,rfl⟩) (nomark _)) (pe_one (Qs (cr_all rfl) rfl B.all boot_all (Qa (pe_lc (own:=[(bN,4),(a9,5)]) (g:=(gTup K 2 (gCons (gName 4) (gCons (gName 5) gNil)))) (tt:=tYes) (te:=(tOp (rI0 fun i j=>.bl (decide (i<=j))) (tVar 5) (tC (.int (1000000000))))) rfl jf.nd (pi_list (pv 3)) (blkOk_by (N:=UY) (sc:=defScope E5) (by decide +kernel)) (fun _ _ _ _ _=>(pg_tup rfl (Qi (pg_name (i:=4) jf.nd rfl (.inl rfl)) (Qi (pg_name (i:=5) jf.nd rfl (.inl rfl)) pgs_nil)))) (fun _ _ _ _ _=>pts_nil) (fun _ _ _ _ _=>(pe_cmpR op_le (pv 5) (pe_glob (v:=.int (1000000000)) rfl sF ⟨_,rfl⟩) (nomark _)))) Qb))))))))),?_⟩
 have no:¬ EK d->∀ H',SB [] H H'->Q (.bl false) H':=fun e H' s'=>q false H' s' ⟨(fun z=>nomatch z),fun z=>absurd z e⟩;obtain ⟨n1,b,ty,kb,y1,y2⟩:=th.ty;refine ⟨_,Ja,_,_,n1,b,Ja,ty,kb,b,Ja,?_⟩;cases b with
 | false =>
  refine iteT (iteT (no ?_ _ SB.refl))
  rintro ⟨r,e,_⟩
  exact y2 rfl _ e
 | true =>
 refine iteF ?_;obtain ⟨a,xs,ds,rfl,rfl,hs,ha⟩:=y1 rfl;refine ⟨_,Ja,a,xs,Ja,.inr hs,Ja,_,Ja,?_⟩;have hl:=TgAll.length ha;by_cases c2:xs.length=2
 ·rw [show (!decide (V.int (xs.length:Nat)=V.int 2))=false by rw [c2]; rfl];refine iteF ?_;cases ha with
  | nil=>simp at c2
  | cons t1 ta =>
   cases ta with
   | nil=>simp at c2
   | cons t2 ta =>
    cases ta with
    | cons t3 ta=>simp at c2
    | nil =>
     rename_i v1 d1 v2 d2;obtain ⟨f1,f2,f3⟩:=hf;have q1:d1.depth < PyData.depth (.tuple [d1,d2])/\d2.depth < PyData.depth (.tuple [d1,d2]):=by simp only [PyData.depth,PyData.depthAll]; omega
     have q2:wide d1<=wide (.tuple [d1,d2])/\wide d2<=wide (.tuple [d1,d2]):=by simp only [wide,tD]; omega
     refine ⟨_,Ja,a,_,Ja,hs,Ja,_,_,Ja,_,_,Ja,Ja,?_⟩;refine ⟨_,Ja,v1,d1,Ja,t1,by omega,by omega,by omega,fun H1 s1=>?_⟩;refine ⟨_,Ja,?_⟩;cases g1:jF d1 with
     | false =>
      refine iteT (iteT (no ?_ _ s1));intro z;obtain ⟨g,k,e,z1,_⟩:=V6 z
      injection e with e
      injection e with e _
      rw [e,z1] at g1;cases g1
     | true =>
     refine iteF ?_;refine ⟨_,Ja,v2,d2,Ja,zR s1 t2,by omega,by omega,by omega,fun H2 s2=>?_⟩;have lC:=s1.trans s2;refine ⟨_,Ja,?_⟩;cases g2:jF d2 with
     | false =>
      refine iteT (no ?_ _ lC);intro z;obtain ⟨g,k,e,_,z1⟩:=V6 z
      injection e with e
      injection e with _ e
      injection e with e _
      rw [e,z1] at g2;cases g2
     | true =>
     refine iteF ?_;obtain ⟨u1,rfl⟩:=QH _ g1;obtain ⟨u2,rfl⟩:=QH _ g2;obtain ⟨w1,w2⟩:=f3 _ _ rfl u1 (.inl rfl);obtain ⟨w3,w4⟩:=f3 _ _ rfl u2 (.inr rfl);have TF:GA K H v1 u1:=by
      cases t1 with
      | tup h1 h2=>exact .tup h1 (CJ u1 h2)
     have TC:GA K H v2 u2:=by
      cases t2 with
      | tup h1 h2=>exact .tup h1 (CJ u2 h2)
     refine ⟨_,Ja,_,u1,Ja,TF.sb lC,by omega,by omega,fun D1 xY H3 s3 Ac oi yU=>?_⟩;refine ⟨_,Ja,_,u2,Ja,(TC.sb lC).sb s3,by omega,by omega,fun D2 xX H4 s4 vr aV bS=>?_⟩;have l1:=yU.length;have l2:=bS.length;rw [Gr.bK] at l1 l2;have jy:=sizeLine_eq;refine ⟨D1,D2,xY,xX,Ja,Ja,s4.keep _ _ oi aP,aV,by omega,fun D3 wZ=>?_⟩;have t5:=Jb wZ (.lst (xY++xX));have kq:=((lC.trans s3).trans s4).trans t5;have bH:=eZ t5;have hZ:Bears K (upd H4 D3 (.lst (xY++xX))) Gr.aB (xY++xX) (u1.within++u2.within):=Bears.append ((yU.sb s4 Gr.aa).sb t5 Gr.aa) (bS.sb t5 Gr.aa);generalize upd H4 D3 _=H5 at t5 kq bH hZ;have Jm:=zf8 g1 g2;refine ⟨_,Ja,D3,_,Ja,.inl (SqL.of bH),_,_,Ja,Ja,_,Ja,?_⟩;refine ite2 (fun c=>?_) (fun c=>?_)
     ·have c1:=Ks c;rw [Yf,l1,l2] at c1;have Ul:=hZ.length;refine ⟨_,Ja,D3,Ja,⟨_,SqL.of bH⟩,fun D hD=>?_⟩;refine oo (walk_list (xs:=xY++xX)) hD (by rw [Yf]; omega) (fun i us _=>us=((u1.within++u2.within).take i).map fun p=>V.bl (decide (p.2<=1000000000))) rfl (fun H6 s6=>s6.fO aP (SqL.of bH)) (fun _ _ _ _ _ h=>h) (fun Pv i x H6 H' us hi s6 y hR Sy fin _=>?_) (fun us H6 s6 ie hR _=>?_)
      ·obtain ⟨rfl,ex⟩:=y;obtain ⟨p,ep,fz⟩:=hZ.get ex;obtain ⟨ad,td,ux,rfl,dM,n5,i3,J5⟩:=nP fz;refine ⟨ad,_,Ja,s6.aL dM,Ja,_,_,Ja,_,_,Ja,Ja,Ja,?_⟩;refine ⟨_,Ja,_,_,Ja,Ja,fin _ _ SB.refl ?_⟩;rw [hR,Yg,ep,Option.toList_some,Yj]; rfl
      ·rw [Ul,Yh] at hR;subst hR;refine ⟨D,((u1.within++u2.within).map fun p=>decide (p.2<=1000000000)),Ja,SqL.of (by rw [List.map_map]; exact ie),q _ _ (kq.trans s6) ?_⟩;rw [Jm];simp only [List.all_map,List.all_eq_true,Function.comp,id_eq,decide_eq_true_eq];exact ⟨fun h=>⟨by omega,h⟩,fun h=>h.2⟩
     ·have c1:=of_decide_eq_false (Bool.eq_false_iff.mpr c);rw [Yf,l1,l2] at c1;refine q false _ kq ⟨(fun z=>nomatch z),fun z=>absurd (Jm.mp z).1 (by omega)⟩
 ·rw [show (!decide (V.int (xs.length:Nat)=V.int 2))=true by rw [Qz (fun z=>by injection z with z; omega)]; rfl];refine iteT (no ?_ _ SB.refl)
  rintro ⟨r,e,_⟩
  have e':PyData.tuple ds=.tuple [r.1.enc,r.2.enc]:=e
  injection e' with e'
  rw [e'] at hl;exact c2 hl
abbrev Vd:List Str:=[aZ,eF,"once","each",bN,a9]
theorem kG:FnScope Vd [aZ,eF] (defScope EX):=fS
theorem zih (B:BI mg) (nv:Got P w K mg base bf [ah] (70) (BC K 70)) (F:Fun K fe fe EX f fd):FnOk P w K mg base CX0 (71) f fd [aZ,eF] (QI K):=by
 refine F.ok kG (fun vs H Q E h=>?_) (fun _ A _ _ H vs Q E hr h=>?_)
 ·obtain ⟨v,l,r,ns,rfl,_⟩:=h
  rfl
 obtain ⟨v,l,r,ns,rfl,hv,ho,hs,hn,q⟩:=h;have bA:=bt hr;refine ⟨_,Qc (ps_asg (pv 0) (pg_tup rfl (Qi (pg_name (i:=2) kG.nd rfl (.inl rfl)) (Qi (pg_name (i:=3) kG.nd rfl (.inl rfl)) pgs_nil))))
  (Qe (Qj (Qs (cr_all rfl) rfl B.all boot_all (Qa (pe_lc (own:=[(bN,4),(a9,5)]) (g:=(gTup K 2 (gCons (gName 4) (gCons (gName 5) gNil)))) (tt:=tYes) (te:=(tOp (rIn K false) (tOp (rIxT K) (tVar 4) (tC (.int 0))) (tVar 1))) rfl kG.nd (pi_list (pe_op op_cat (aT nv (Hm hr) rfl (Qa (pv 2) Qb)) (aT nv (Hm hr) rfl (Qa (pv 3) Qb)))) (blkOk_by (N:=Vd) (sc:=defScope EX) (by decide +kernel)) (fun _ _ _ _ _=>(pg_tup rfl (Qi (pg_name (i:=4) kG.nd rfl (.inl rfl)) (Qi (pg_name (i:=5) kG.nd rfl (.inl rfl)) pgs_nil)))) (fun _ _ _ _ _=>pts_nil) (fun _ _ _ _ _=>(pe_cmpR op_in_seq (Qm Ql (pv 4) Qg (fun _ _=>rfl)) (pv 1) (by rfl)))) Qb)))),?_⟩
 obtain ⟨ho1,Y1,ho3⟩:=ho;cases (hv:Dp K H v (.tuple [r.1.enc,r.2.enc])) with
 | tup ht hd =>
 rename_i a xs;cases hd with
 | cons g1 hd =>
 cases hd with
 | cons g2 hd =>
 cases hd;have dp1:=(pJ r.1);have dp2:=(pJ r.2);refine ⟨_,Ja,a,_,Ja,ht,Ja,_,_,Ja,_,_,Ja,Ja,?_⟩;have TF:GA K H _ r.1:=g1;have TC:GA K H _ r.2:=g2;refine ⟨_,Ja,_,r.1,Ja,TF,by omega,by omega,fun D1 xY H3 s3 Ac oi yU=>?_⟩;refine ⟨_,Ja,_,r.2,Ja,TC.sb s3,by omega,by omega,fun D2 xX H4 s4 vr aV bS=>?_⟩;have l1:=yU.length;have l2:=bS.length;rw [Gr.bK] at l1 l2;have jy:=sizeLine_eq;refine ⟨D1,D2,xY,xX,Ja,Ja,s4.keep _ _ oi aP,aV,by omega,fun D3 wZ=>?_⟩;have t5:=Jb wZ (.lst (xY++xX));have kq:=(s3.trans s4).trans t5;have bH:=eZ t5;have hZ:Bears K (upd H4 D3 (.lst (xY++xX))) Gr.aB (xY++xX) (r.1.within++r.2.within):=Bears.append ((yU.sb s4 Gr.aa).sb t5 Gr.aa) (bS.sb t5 Gr.aa);generalize upd H4 D3 _=H5 at t5 kq bH hZ;have Ul:=hZ.length;refine ⟨D3,Ja,⟨_,SqL.of bH⟩,fun D hD=>?_⟩;refine oo (walk_list (xs:=xY++xX)) hD (by rw [Yf]; omega) (fun i us _=>us=((r.1.within++r.2.within).take i).map fun p=>V.bl (decide (p.1.1 ∈ ns))) rfl (fun H6 s6=>s6.fO aP (SqL.of bH)) (fun _ _ _ _ _ h=>h) (fun Pv i x H6 H' us hi s6 y hR Sy fin _=>?_) (fun us H6 s6 ie hR _=>?_)
 ·obtain ⟨rfl,ex⟩:=y;obtain ⟨p,ep,fz⟩:=hZ.get ex;obtain ⟨ad,td,ux,rfl,dM,n5,i3,J5⟩:=nP fz;refine ⟨ad,_,Ja,s6.aL dM,Ja,_,_,Ja,_,_,Ja,Ja,Ja,?_⟩;refine ⟨_,Ja,td,_,_,_,Ja,Ja,s6.aL n5,atI_nat (j:=0) rfl,_,Ja,l,_,Ja,.inl ((kq.trans s6).fO aP hs),Ja,FQ _,fin _ _ SB.refl ?_⟩;rw [hR,Yg,ep,Option.toList_some,Yj,FH]; rfl
 ·rw [Ul,Yh] at hR;subst hR;refine ⟨D,((r.1.within++r.2.within).map fun p=>decide (p.1.1 ∈ ns)),Ja,SqL.of (by rw [List.map_map]; exact ie),?_⟩;have:=q _ (kq.trans s6);rw [show (List.map (fun p:Tr × Int=>decide (p.1.1 ∈ ns)) (r.1.within++r.2.within)).all id=decide (∀ p ∈ Ru.within r,p.1.1 ∈ ns) by
   rw [Bool.eq_iff_iff];simp only [List.all_map,List.all_eq_true,Function.comp,id_eq,decide_eq_true_eq];exact Iff.rfl]
  exact this
abbrev zm7:List Str:=[ah,bq,bN,"row",Ag]
theorem kF:FnScope zm7 [ah,bq] (defScope GG):=fS
theorem zhd {C:Addr} (B:BI mg) (O:Own K mg "NoPlace" C) (GW:Got P w K mg base dN [aA] 1 (HX K)) (F:Fun K ir ir GG f fd):FnOk P w K mg base (L2.CX P w) 2 f fd [ah,bq] (N4 K C):=by
 refine F.okX kF (fun vs H Q E h=>?_) (fun _ A _ _ H vs Q E hr h=>?_)
 ·obtain ⟨v,g,a,xs,os,rfl,_⟩:=h
  rfl
 obtain ⟨v,g,a,xs,os,rfl,hv,hs,hw,q,qE⟩:=h;refine ⟨_,Qc (Qr (Qp (pt_truth (pv 1) (by intro _; rfl))) (Qe (ps_raise rfl (takes_of rfl rfl rfl rfl) (pmk_own PySem.F.excBase_ValueError O.q O.gC O.k (raises_own O.s O.t) rfl))) pss_nil)
  (Qc (ps_set (i:=2) kF.nd rfl (.inl rfl) (Ka Qb))
  (Qc (ps_set (i:=3) kF.nd rfl (.inl rfl) (pv 0))
  (Qc (ps_for (passes_of rfl) rfl (pi_tup (pv 1)) (pg_name (i:=4) kF.nd rfl (.inl rfl))
   (Qc (Qr (PW.pt (Kk (Qp (Qo (aT GW hr rfl (Qa (pv 4) Qb)))) (pw_or1 (Qp (pt_chain op_le op_lt Qg (pv 4) (Qs call_len_seq rfl B.len PySem.boot_len (Qa (pv 3) Qb)))))))
    (Qe (ps_raise rfl (takes_of rfl rfl rfl rfl) (pmk_own PySem.F.excBase_ValueError O.q O.gC O.k (raises_own O.s O.t) rfl))) pss_nil)
   (Qc (ps_set (i:=2) kF.nd rfl (.inl rfl) (Qm Ql (Qm Ql (pv 3) (pv 4) (fun _ _=>rfl)) Qg (fun _ _=>rfl)))
   (Qe (ps_set (i:=3) kF.nd rfl (.inl rfl) (Qm Ql (pv 2) Qg (fun _ _=>rfl)))))))
  (Qe (Qj (pv 2)))))),?_⟩
 have wl:=hw.length;by_cases hnil:os=[]
 ·have x0:xs=[]:=by rw [hnil] at wl; exact List.length_eq_zero_iff.mp wl
  exact ⟨_,Ja,false,.inr (.inl ⟨xs,hs,by rw [x0]; rfl⟩),iteT (qE (.inl hnil) _ SB.refl)⟩
 have x1:xs ≠ []:=fun z=>hnil (by rw [z] at wl; exact List.length_eq_zero_iff.mp wl.symm);refine ⟨_,rfl,true,.inr (.inl ⟨xs,hs,by cases xs with | nil=>exact absurd rfl x1 | cons _ _=>rfl⟩),iteF ?_⟩;refine ⟨(Z0),fun e0 OX=>?_⟩;have t0:=Jb OX (.tup []);have OM:=hv.sb t0;have F9:=t0.aL hs;have YS:Whs K (upd H e0 (.tup [])) xs os:=Whs.sb t0 hw;generalize hH0:upd H e0 (.tup [])=H0 at t0 OM F9 YS;refine ⟨_,Ja,_,Ja,a,Ja,⟨xs,F9⟩,?_⟩;refine for_tup (K:=K) (a:=a) (xs:=xs) (fun i σ H2=>H2=H0/\∃ (tv rv:V) (t:Tr) (o4:Option V),σ=[some v,some (.ref a),some tv,some rv,o4]/\lk ("",g) (os.take i)=some t/\GA K H0 rv t.2/\(i=0\/Dp K H0 tv (Gr.aG t)))
  ⟨rfl,_,_,("",g),none,rfl,rfl,OM,.inl rfl⟩ (fun i σ H2 hi h2=>by rw [h2.1]; exact F9) (fun i x σ H2 hx h2=>?_) (fun σ H2 h2=>?_)
 ·obtain ⟨rfl,tv,rv,t,o4,rfl,vw,OP,_⟩:=h2;obtain ⟨o,eo,hwx⟩:=YS.get hx;have bad:stp t.2 o=none->E (.ref C) none H2:=fun z=>qE (.inr (zfu vw eo z)) _ t0;rcases hwx with ⟨n,rfl,rfl⟩ | ⟨rfl,n,b1,b2,ty,k1,k2,k3⟩
  ·refine ⟨_,rfl,_,"int",true,false,rfl,.base (.int n),by decide +kernel,fun _=>by decide +kernel,true,rfl,iteF ?_⟩;obtain ⟨c,ys,rfl,oN,B3⟩:=nH OP;have yl:=B3.length;refine ⟨_,Ja,_,_,Ja,Ja,_,Ja,?_⟩;by_cases h0:0<=n
   ·rw [Ya h0];refine iteT ⟨_,Ja,c,ys,Ja,.inr oN,_,_,Ja,Ja,_,Ja,?_⟩;obtain ⟨m,rfl⟩:∃ m:Nat,n=(m:Int):=⟨n.toNat,by omega⟩;by_cases h1:m < ys.length
    ·rw [show decide ((m:Int) < (ys.length:Nat))=true from Ya (by omega)];refine iteF ?_;obtain ⟨y,hy⟩:∃ y,ys[m]?=some y:=⟨_,Kp h1⟩;obtain ⟨p,ep,fz⟩:=B3.get hy;obtain ⟨ad,bd,ux,rfl,vn,jB,yO,J5⟩:=nP fz;refine ⟨_,Ja,_,Ja,c,ys,_,_,Ja,Ja,oN,atI_nat hy,ad,_,_,_,Ja,Ja,vn,atI_nat (j:=0) rfl,?_⟩;refine ⟨_,Ja,bd,_,_,_,Ja,Ja,jB,atI_nat (j:=1) rfl,?_⟩;have es:stp t.2 (some (m:Int))=some p.1:=by
      show (if 0<=(m:Int) then (t.2.ps[(m:Int).toNat]?).map (·.1) else none)=_;rw [if_pos h0,Int.toNat_natCast,ep]; rfl
     exact ⟨rfl,_,_,p.1,_,Ja,zez vw eo es,yO,.inr J5⟩
    ·rw [show decide ((m:Int) < (ys.length:Nat))=false from Qz (by omega)];refine iteT (bad ?_);show (if 0<=(m:Int) then (t.2.ps[(m:Int).toNat]?).map (·.1) else none)=_;rw [if_pos h0,Int.toNat_natCast,List.getElem?_eq_none (by omega)]; rfl
   ·rw [Qz h0];refine iteF ⟨_,Ja,iteT (bad ?_)⟩;show (if 0<=n then (t.2.ps[n.toNat]?).map (·.1) else none)=_;rw [if_neg h0]
  ·refine ⟨_,Ja,_,n,b1,b2,Ja,ty,k1,k2,_,Ja,?_⟩;rw [k3];exact iteT (iteT (bad rfl))
 ·obtain ⟨rfl,tv,rv,t,o4,rfl,vw,OP,h3⟩:=h2;rw [wl,Yh] at vw;refine ⟨_,Ja,q t hnil vw _ _ t0 ?_⟩;rcases h3 with h3 | h3
  ·exact absurd (List.length_eq_zero_iff.mp h3) x1
  ·exact h3
abbrev Vf:List Str:=[ah,bN,"pair"]
theorem tU:FnScope Vf [ah,bN] (defScope Fd):=fS
theorem zhm (B:BI mg) (F:Fun K gy gy Fd f fd):FnOk P w K mg base CX0 (1) f fd [ah,bN] (VO K):=by
 refine F.ok tU (fun vs H Q E h=>?_) (fun _ A _ _ H vs Q E hr h=>?_)
 ·obtain ⟨v,u,g,t,m,rfl,_⟩:=h
  rfl
 obtain ⟨v,u,g,t,m,rfl,hv,hu,⟨C,go⟩,gd,gl,tm,q⟩:=h;have bA:=bt hr;refine ⟨_,Qe (Qj (Kn Ki PySem.F.slot_list_index PySem.F.type_list_index (Xf (by show A.units+3+196 < cLine; omega)) (pe_lc (own:=[("pair",2)]) (g:=(gName 2)) (tt:=tYes) (te:=(tOp (rIxT K) (tVar 2) (tC (.int 0)))) rfl tU.nd (pi_tup (pv 0)) (blkOk_by (N:=Vf) (sc:=defScope Fd) (by decide +kernel)) (fun _ _ _ _ _=>(pg_name (i:=2) tU.nd rfl (.inl rfl))) (fun _ _ _ _ _=>pts_nil) (fun _ _ _ _ _=>(Qm Ql (pv 2) Qg (fun _ _=>rfl)))) (Qa (pv 1) Qb))),?_⟩;have jy:=sizeLine_eq;obtain ⟨a,xs,rfl,hs,hb⟩:=nH hv;have xl:=hb.length;obtain ⟨n1,o1,_,_⟩:=Gr.bW go tm;have td:t.2.deep < g.deep:=g.av (t,m) tm;have wV:=Gr.pos_at go tm;refine ⟨_,Ja,a,Ja,⟨xs,hs⟩,fun D nD=>?_⟩;refine Py (walk_tup (xs:=xs)) [] nD (by simp) (by omega) (fun i us H2=>Bears K H2 Gr.aG us ((g.ps.take i).map fun p:Tr × Int=>p.1)) .nil (fun H2 s2=>s2.aL hs) (fun i us H2 H3 s3 h=>h.sb s3 Gr.ax) (fun Pv i x Hq H2 us hi s2 y hR hu aV fin _=>?_) (fun us H2 s2 aV hR zZ=>?_)
 ·obtain ⟨rfl,ey⟩:=y;obtain ⟨p,ep,fz⟩:=hb.get ey;obtain ⟨ad,bd,ux,rfl,h1,h2,h3,h4⟩:=nP fz;refine ⟨rfl,_,Ja,ad,_,_,_,Ja,Ja,s2.aL h1,atI_nat (j:=0) rfl,fin _ _ SB.refl ?_⟩;rw [Yg,ep,Yj];exact hR.append (.cons (cI s2 _ _ (Gr.ax _) h4) .nil)
 ·rw [xl,Yh] at hR;have vz:DpAll K H2 us ((g.ps.map fun p:Tr × Int=>p.1).map Gr.aG):=Ij hR;have e:∀ i:Nat,((g.ps.map fun p:Tr × Int=>p.1).map Gr.aG)[i]?=(g.ps[i]?).map fun p=>Gr.aG p.1:=fun i=>by rw [List.getElem?_map,List.getElem?_map,Option.map_map]; rfl
  refine ⟨.inl ⟨rfl,_,SqL.of aV⟩,_,Ja,D,_,Gr.aG t,_,Gr.pos g t,Gr.aG t,Ja,Ja,.lst (SqL.of aV) vz,cI s2 _ _ (Gr.ax _) hu,?_,Gr.xT n1 o1 (by omega),?_,?_,fun j z' hj hz=>?_,q _ s2⟩
  ·rw [List.map_map];exact Gr.um fun p hp=>by obtain ⟨h1,h2,_⟩:=Gr.bW go hp; exact ⟨h1,h2⟩
  ·rw [e,wV]; rfl
  ·rw [Gr.ou]; simp
  ·rw [e] at hz;obtain ⟨p,ep,rfl⟩:=Kr hz;rw [Gr.ou];refine Qz fun z=>?_;have:=Gr.yo go ep;rw [z] at this;omega
abbrev Vr:List Str:=[ah,"found",Ag,"pair",bq]
theorem kK:FnScope Vr [ah] (defScope E7):=fS
theorem zcz {ps:List Str}:FnOk P w K mg base CX0 k f fd ps (Fu K 0):=tG fun vs H Q E ⟨v,g,_,_,h,_⟩=>by omega
theorem zi0 (B:BI mg) (zM:Got P w K mg base cj [ah] (n) (Fu K n)) (F:Fun K cj cj E7 f fd):FnOk P w K mg base CX0 (n+1) f fd [ah] (Fu K (n+1)):=by
 refine F.ok kK (fun vs H Q E h=>?_) (fun _ A _ _ H vs Q E hr h=>?_)
 ·obtain ⟨v,g,rfl,_⟩:=h
  rfl
 obtain ⟨v,g,rfl,hv,hd,Zf,hp,q⟩:=h;have bA:=bt hr;refine ⟨_,Qc (ps_set (i:=1) kK.nd rfl (.inl rfl) (pe_lst Qb))
  (Qc (ps_for PassesOwn.never rfl (zco rfl B.enumerate (pv 0)) (pg_tup rfl (Qi (pg_name (i:=2) kK.nd rfl (.inr rfl)) (Qi (pg_name (i:=3) kK.nd rfl (.inl rfl)) pgs_nil)))
   (Qc (Kf (Kn Ki PySem.F.slot_list_append PySem.F.type_list_append mt_append (pv 1) (Qa (Ka (Qa (pv 2) Qb)) Qb)))
  (Qe (Kf (Kn Ki PySem.F.slot_list_extend PySem.F.type_list_extend mt_extend (pv 1) (Qa (pe_lc (own:=[(bq,4)]) (g:=(gName 4)) (tt:=tYes) (te:=(tOp (Vj K) (tTup (tCons (tVar 2) tNil)) (tVar 4))) rfl kK.nd (pi_list (aT zM (Hm hr) rfl (Qa (Qm Ql (Qm Ql (pv 3) Qg (fun _ _=>rfl)) Qg (fun _ _=>rfl)) Qb))) (blkOk_by (N:=Vr) (sc:=defScope E7) (by decide +kernel)) (fun _ _ _ _ _=>(pg_name (i:=4) kK.nd rfl (.inl rfl))) (fun _ _ _ _ _=>pts_nil) (fun _ _ _ _ _=>(pe_op zT (Ka (Qa (pv 2) Qb)) (pv 4)))) Qb))))))
  (Qe (Qj (pv 1)))),?_⟩
 obtain ⟨a,xs,rfl,hs,hb⟩:=nH hv;have bl:=hb.length;have RS:=g.nh 0;refine ⟨(Z0),fun D hD=>?_⟩;refine ⟨_,Ja,a,xs,Ja,(Jb hD _).aL hs,?_⟩;refine for_it (zb0 (xs:=xs)) (fun i σ H2=>SB [D] H H2/\∃ us o2 o3,σ=[some (.ref a),some (.ref D),o2,o3,none]/\H2 D=some (.lst us)/\Bears K H2 xP us ((Gr.aks (g.ps.take i) 0).map (·.1))) ⟨SB.new hD _,[],none,none,Ja,Qt,.nil⟩ (fun i σ H2 hi h2=>(h2.1.drop hD).aL hs) (fun i x σ H2 H' hi h2 y=>?_) (fun σ H2 h2=>?_)
 ·obtain ⟨s2,us,o2,o3,rfl,aV,bS⟩:=h2;obtain ⟨T,e1,e2,rfl,hT,rfl,Mq,Mp⟩:=y;have Ae:e1=.int (i:Nat):=(Yd Mq).symm;subst Ae;obtain ⟨p,ep,fz⟩:=hb.get Mp;have pm:=Qu ep;obtain ⟨ad,td,ux,rfl,dM,n5,i3,_⟩:=nP fz;have t3:=SB.new (ps:=[D]) hT (.tup [.int (i:Nat),.ref ad]);have bH:(upd H2 T (.tup [.int (i:Nat),.ref ad])) D=some (.lst us):=by rw [upd_ne (ne_of_none aV hT)]; exact aV
  have oU:SqT K (upd H2 T (.tup [.int (i:Nat),.ref ad])) T [.int (i:Nat),.ref ad]:=SqT.of Qt;have s3:=s2.trans t3;have hZ:=bS.sb t3 vX;generalize hH3:upd H2 T (.tup [.int (i:Nat),.ref ad])=H3 at t3 bH oU s3 hZ;have ul:=hZ.length;rw [Ye] at ul;have pd:=g.av p pm;have pp:=g.bu p pm;have qx:g.ak 0=Gr.aks (g.ps.take i) 0++Gr.Cw p i++Gr.aks (g.ps.drop (i+1)) (i+1):=by
   rw [Gr.zu]
   conv=>lhs; rw [<- List.take_append_drop (i+1) g.ps]
   rw [Gr.jr,Gr.sR ep,Kx,Nat.min_eq_left (by omega),Nat.zero_add]
  have hlen:=congrArg List.length qx;rw [Yf,Yf] at hlen;have hP:(Gr.Cw p i).length=1+p.1.2.parts:=by
   unfold Gr.Cw;rw [Yk,Ye,Gr.nh]; omega
  refine ⟨T,_,Ja,oU,Ja,_,_,Ja,_,_,Ja,Ja,?_⟩;refine ⟨_,Ja,.inl ⟨rfl,_,SqL.of bH⟩,_,Ja,(lH),fun t ht=>?_⟩;have t4:=SB.new (ps:=[D]) ht (.tup [.int (i:Nat)]);have jD:(upd H3 t (.tup [.int (i:Nat)])) D=some (.lst us):=by rw [upd_ne (ne_of_none bH ht)]; exact bH
  refine ⟨D,us,_,Ja,Ja,jD,vW (by omega),?_⟩;have t5:=SB.set (ps:=[D]) jD (by simp) (.lst (us++[.ref t]));have eQ:(upd (upd H3 t (.tup [.int (i:Nat)])) D (.lst (us++[.ref t]))) D=some (.lst (us++[.ref t])):=Qt;have yT:=Bears.append ((hZ.sb t4 vX).sb t5 vX) (.cons (NJ (p:=[i]) (t5.aL (SqT.of Qt))) .nil);have s5:=(s3.trans t4).trans t5;generalize hH5:upd (upd H3 t (.tup [.int (i:Nat)])) D (.lst (us++[.ref t]))=H5 at t5 eQ yT s5;have QY:=s5.drop hD;refine ⟨_,Ja,.inl ⟨rfl,_,SqL.of eQ⟩,?_⟩;refine ⟨_,Ja,ad,_,_,_,Ja,Ja,QY.aL dM,atI_nat (j:=0) rfl,td,_,_,_,Ja,Ja,QY.aL n5,atI_nat (j:=1) rfl,_,p.1.2,Ja,i3.sb QY,by omega,by omega,by omega,fun D2 Ou H6 s6 F0 ie ti=>?_⟩;have Tt:=s6.keep _ _ eQ aP;have vl:=ti.length;rw [Ye] at vl;have pal:=p.1.2.nh 0;refine ⟨D2,Ja,⟨_,SqL.of ie⟩,fun L hL=>?_⟩;refine oo (walk_list (xs:=Ou)) hL (by have:=vW (n:=Ou.length) (by omega); omega) (fun j ws H7=>Bears K H7 xP ws (((p.1.2.ak 0).take j).map fun x:Pl × Str=>i::x.1)) .nil (fun H7 s7=>s7.fO aP (SqL.of ie)) (fun _ _ _ _ e h=>h.sb e vX) (fun Pv j z Hq H7 ws hj s7 yz hR hw fin _=>?_) (fun ws H7 s7 hL7 hR hw=>?_)
  ·obtain ⟨rfl,ez⟩:=yz;obtain ⟨pl,Cu,fy⟩:=ti.get ez;rw [List.getElem?_map] at Cu;obtain ⟨x,ex,rfl⟩:=Kr Cu;obtain ⟨pa,rfl,lP⟩:=PB fy;have Yu:=p.1.2.qO 0 x (Qu ex);refine ⟨rfl,?_⟩;refine ⟨_,Ja,(lH),fun t ht=>?_⟩;have t8:=Jb ht (.tup [.int (i:Nat)]);refine ⟨_,Ja,t,pa,_,_,Ja,Ja,SqT.of Qt,t8.aL (s7.aL lP),?_,fun c H8 s8 hc=>?_⟩
   ·rw [Ye,Yi];have:=Fv (n:=1+x.1.length) (by omega);omega
   refine fin _ _ (t8.trans s8) ?_;rw [Yg,ex,Option.toList_some,Yj];exact Bears.append ((hR.sb t8 vX).sb s8 vX) (.cons (NJ (p:=i::x.1) hc) .nil)
  ·rw [vl,Yh] at hR;have wl:=hR.length;rw [Ye] at wl;have tj:=s7.keep _ _ Tt aP;refine ⟨D,L,_,_,Ja,Ja,tj,hL7,?_,?_⟩
   ·rw [Yf,Yi];have:=Fv (n:=us.length+1+ws.length) (by omega);omega
   have t8:=SB.set (ps:=[D]) tj (by simp) (.lst (us++[.ref t]++ws));refine ⟨((s5.trans s6.nil).trans s7.nil).trans t8,_,_,_,Ja,Qt,?_⟩;rw [Gr.sR ep,Yj];show Bears _ _ _ _ (_++([i]::((p.1.2.ak 0).map fun x=>(i::x.1,x.2)).map (·.1)));rw [List.map_map,show ∀ A B:List Pl,A++[i]::B=A++[[i]]++B from fun A B=>by simp];exact Bears.append (((yT.sb s6 vX).sb s7 vX).sb t8 vX) (hR.sb t8 vX)
 ·obtain ⟨s2,us,o2,o3,rfl,aV,bS⟩:=h2;rw [bl,Yh,<- Gr.zu] at bS;exact ⟨_,Ja,q D us H2 (s2.drop hD) hD aV bS⟩
abbrev zlf:List Str:=[aq,ah,bq,aZ,aN,"kind","held","told","left","changed"]
theorem kI:FnScope zlf [aq,ah,bq,aZ,aN] (defScope GI):=fS
theorem zij {cb ae aw cZ bX dC:Addr} (B:BI mg) (dI:Own K mg "NoPlace" cb) (Nb:GotX P w K mg base d3 [aq,ah] (72) (Xm K ae aw)) (zE:GotX P w K mg base ir [ah,bq] (2) (N4 K cb)) (MK:GotX P w K mg base j7 [aq,"kind",aZ] (6) (Wx K ae cZ)) (Na:GotX P w K mg base c9 [aA] (2) (WJ K bX)) (zF:Got P w K mg base gV [aq,ah,bq,pE,aN] (70) (FL K ae 64)) (MZ:Got P w K mg base uS [aZ,aN] (3) (VU K)) (Nd:GotX P w K mg base d4 [ah] (72) (Xz K dC)) (F:Fun K nK nK GI f fd):FnOk P w K mg base (L2.CX P w) (74) f fd [aq,ah,bq,aZ,aN] (Xb K ae aw cb cZ bX dC):=by
 refine F.okX kI (fun vs H Q E h=>?_) (fun _ A _ _ H vs Q E hr h=>?_)
 ·obtain ⟨v,w,r1,r2,r3,rfl,_⟩:=h
  rfl
 obtain ⟨v,w,r1,r2,r3,rfl,b0,g0,ns,OM,b60,hg0,gd0,gp0,gn0,RB,qK,qI⟩:=h;have bA:=bt hr;refine ⟨_,Qc (Kf (tH Nb (Hm hr) rfl (takes_of rfl rfl rfl rfl) (Qa (pv 0) (Qa (pv 1) Qb))))
  (Qc (ps_asg (tH zE (Hm hr) rfl (takes_of rfl rfl rfl rfl) (Qa (pv 1) (Qa (pv 2) Qb))) (pg_tup rfl (Qi (pg_name (i:=5) kI.nd rfl (.inl rfl)) (Qi (pg_name (i:=6) kI.nd rfl (.inl rfl)) pgs_nil))))
  (Qc (Qr (pt_truth (pv 6) (by intro _; rfl)) (Qe (ps_raise rfl (takes_of rfl rfl rfl rfl) (pmk_own PySem.F.excBase_ValueError dI.q dI.gC dI.k (raises_own dI.s dI.t) rfl))) pss_nil)
  (Qc (ps_set (i:=7) kI.nd rfl (.inl rfl) (tH MK (Hm hr) rfl (takes_of rfl rfl rfl rfl) (Qa (pv 0) (Qa (pv 5) (Qa (pv 3) Qb)))))
  (Qc (Kf (tH Na (Hm hr) rfl (takes_of rfl rfl rfl rfl) (Qa (pv 4) Qb)))
  (Qc (ps_asg (aT zF (Hm hr) rfl (Qa (pv 0) (Qa (pv 1) (Qa (pv 2) (Qa (aT MZ (Hm hr) rfl (Qa (pv 7) (Qa (pv 4) Qb))) (Qa (pv 4) Qb)))))) (pg_tup rfl (Qi (pg_name (i:=8) kI.nd rfl (.inl rfl)) (Qi (pg_name (i:=9) kI.nd rfl (.inl rfl)) pgs_nil))))
  (Qc (Kf (tH Nd (Hm hr) rfl (takes_of rfl rfl rfl rfl) (Qa (pv 8) Qb)))
  (Qe (Qj (Ka (Qa (pv 8) (Qa (pv 9) Qb))))))))))),?_⟩
 refine ⟨_,Ja,_,Ja,v,w,b0,g0,ns,Ja,OM,hg0,b60,gd0,gp0,gn0,RB,fun Ce H1 s1=>?_,fun n hn d H1 s1 nd sA=>qK n hn d H1 s1 nd sA⟩;obtain ⟨v',w',x,y,a,b,g,D,xs,os,ro,so,e,⟨hv,ok⟩,⟨hw,go,gd,gp,gn⟩,⟨ha,JF⟩,hx,hy,sb,qP,q⟩:=qI Ce;cases e;have xsl:=JF.length;refine ⟨_,Ja,_,Ja,w,g,a,xs,os,Ja,hw.sb s1,s1.aL ha,JF.sb s1,fun t n6 vw vt H2 s2 ht=>?_,fun S1 H2 s2=>qP (fun pl k e hb=>?_) _ (s1.trans s2)⟩
 case refine_2 =>
  have h1:=Gr.j2 "" hb;rw [<- e] at h1;rcases S1 with h | h
  ·rw [e] at h;exact Gr.qN hb (by simpa [ik] using h)
  ·rw [h] at h1; cases h1
 obtain ⟨pl,Cu,oQ⟩:=Gr.vj n6 vw;cases (ht:Dp K H2 vt (.tuple [.str t.1,t.2.enc])) with
 | @tup ad tK _ vo hda =>
 cases hda with
 | cons g1 hda =>
 cases hda with
 | cons g2 hda =>
 cases hda;cases g1;rename_i hd;have JR:GA K H2 hd t.2:=g2;obtain ⟨ga,gs,rfl,i3,qX⟩:=nH JR;have K4:=qX.length;have jz:=s1.trans s2;refine ⟨ad,_,Ja,vo,Ja,_,_,Ja,_,_,Ja,Ja,?_⟩;by_cases hnil:t.2=.nil
 case neg =>
  have SF:gs ≠ []:=fun z=>by
   rw [z] at K4;cases e:t.2 with
   | nil=>exact hnil e
   | cons _ _ _ _=>rw [e] at K4; simp [Gr.ps] at K4
  refine ⟨_,rfl,true,.inr (.inl ⟨gs,i3,by cases gs with | nil=>exact absurd rfl SF | cons _ _=>rfl⟩),iteT (qP (fun xB k e hb=>?_) _ jz)⟩;have h1:=Gr.j2 "" hb;rw [<- e,vw] at h1;exact hnil (by rw [Yd h1])
 have hb:=oQ hnil;have SF:gs=[]:=by
  rw [hnil] at K4;exact List.length_eq_zero_iff.mp K4
 subst SF;refine ⟨_,Ja,false,.inr (.inl ⟨[],i3,Ja⟩),iteF ?_⟩;have kn:=Gr.fE gn hb;obtain ⟨kd,eg⟩:=Bk.dw kn;obtain ⟨km,_⟩:=Bk.get_some eg;obtain ⟨_,r4,rr⟩:=ok.kd kd km;obtain ⟨q1,q2⟩:=q pl t.1 kd Cu hb eg;refine ⟨_,Ja,_,Ja,_,Ja,v,r2,b,t.1,kd,ro,Ja,hv.ef jz,ok,eg,hx.sb jz,fun i r er hr yv H3 s3 hyr=>?_,fun wY H3 s3=>q1 wY _ (jz.trans s3)⟩;obtain ⟨q3,q4⟩:=q2 i r er hr;have BJ:=jz.trans s3;refine ⟨_,rfl,r3,so,rfl,hy.sb BJ,fun ⟨n,en,n0⟩ H4 s4=>?_,fun DY H4 s4=>q3 DY _ (BJ.trans s4)⟩;subst en;have ey:=hy.int;subst ey;obtain ⟨q5,q6⟩:=q4 n rfl n0;have OC:=BJ.trans s4;have ij:=P1 (fun r hr=>(rr r hr).1) hr;have nb:=sb n rfl;subst Cu;have TU:=JF.ints;subst TU;refine ⟨_,Ja,_,Ja,_,Ja,_,Ja,_,Ja,yv,r,n,Ja,cI s4 _ _ (Ru.aj _) hyr,ij,n0,nb,fun fv H5 s5 hf=>?_⟩;have OB:=OC.trans s5;have AF:=Gr.fF hb;have go2:=Gr.qJ ij n0;have Pa:=Gr.mX ij n;have O8:=Gr.kR ij n;refine ⟨_,Ja,v,w,fv,a,n,D,1000000001*n+2000000002,b,g,Gr.fM r n,pl,t.1,Ja,⟨hv.ef OB,ok⟩,⟨hw.sb OB,go,gd,gp,gn⟩,⟨hf,by omega,go2,Pa,O8⟩,OB.aL ha,hb,by omega,n0,fun tt u pt H6 s6 htt hu hpt=>?_⟩;refine ⟨tt,_,Ja,htt,Ja,_,_,Ja,_,_,Ja,Ja,?_⟩;have d1:=Gr.gL (b:=b) (n:=n) (fr:=Gr.fM r n) hb;have p1:=Gr.iX (b:=b) (n:=n) (fr:=Gr.fM r n) hb;have p2:pl.length*(g.parts+1)<=60*2001:=Nat.mul_le_mul (by omega) (by omega);have BH:=OB.trans s6;refine ⟨_,Ja,u,_,Ja,hu,by omega,by omega,fun yM H7 s7=>?_,fun uD H7 s7=>q5 uD _ (BH.trans s7)⟩;refine ⟨_,Ja,_,Ja,dY,fun T nT=>?_⟩;have t8:=Jb nT (.tup [u,pt]);have Yo:=BH.trans s7;exact q6 yM T u pt _ (Yo.trans t8) (Yo.kU _ nT) (SqT.of Qt) ((hu.sb s7).sb t8) (cI (s7.trans t8) _ _ (vX _) hpt)
abbrev zlk:List Str:=[aq,"kind",aZ,"rows"]
theorem x8:FnScope zlk [aq,"kind",aZ] (defScope HA):=fS
theorem zj0 {cZ ae aw:Addr} (B:BI mg) (fH:Own K mg "NoRule" cZ) (zG:GotX P w K mg base bw [aq,aO] (5) (P5 K ae aw)) (zI:Got P w K mg base dN [aA] (1) (HX K)) (F:Fun K j7 j7 HA f fd):FnOk P w K mg base (L2.CX P w) (6) f fd [aq,"kind",aZ] (Wx K ae cZ):=by
 refine F.okX x8 (fun vs H Q E h=>?_) (fun _ A _ _ H vs Q E hr h=>?_)
 ·obtain ⟨v,x,b,k,kd,o,rfl,_⟩:=h
  rfl
 obtain ⟨v,x,b,k,kd,o,rfl,hv,ok,eg,hx,q,qE⟩:=h;have bA:=bt hr;refine ⟨_,Qc (ps_set (i:=3) x8.nd rfl (.inl rfl) (tH zG (Hm hr) rfl (takes_of rfl rfl rfl rfl) (Qa (pv 0) (Qa (pv 1) Qb))))
  (Qc (Qr (PW.pt (Kk (Qp (Qo (aT zI (Hm hr) rfl (Qa (pv 2) Qb)))) (pw_or1 (Qp (pt_chain op_le op_lt Qg (pv 2) (Qs call_len_seq rfl B.len PySem.boot_len (Qa (pv 3) Qb))))))) (Qe (ps_raise rfl (takes_of rfl rfl rfl rfl) (pmk_own PySem.F.excBase_ValueError fH.q fH.gC fH.k (raises_own fH.s fH.t) rfl))) pss_nil)
  (Qe (Qj (Qm ix_list (pv 3) (pv 2) (fun _ _=>rfl))))),?_⟩
 have r4:∀ k ∈ b,k.rs.length<=4:=fun k hk=>(ok.kd k hk).2.1;refine ⟨_,Ja,_,Ja,v,b,k,Ja,hv,by have:=ok.len; omega,fun k hk=>by have:=r4 k hk; omega,fun F5 e l us H1 s1 nl hl hb=>?_,fun z=>by rw [eg] at z; cases z⟩;rw [eg] at e;cases e;have ul:=hb.length;rw [Yk] at ul;rcases hx with ⟨i,rfl,rfl⟩ | ⟨rfl,n,b1,b2,ty,k1,k2,k3⟩
 ·refine ⟨_,rfl,_,"int",true,false,rfl,.base (.int i),by decide +kernel,fun _=>by decide +kernel,true,rfl,iteF ?_⟩;refine ⟨_,Ja,_,_,Ja,Ja,_,Ja,?_⟩;by_cases h0:0<=i
  ·rw [Ya h0];refine iteT ⟨_,Ja,l,us,Ja,.inl (SqL.of hl),_,_,Ja,Ja,_,Ja,?_⟩;obtain ⟨m,rfl⟩:∃ m:Nat,i=(m:Int):=⟨i.toNat,by omega⟩;by_cases h1:m < us.length
   ·rw [show decide ((m:Int) < (us.length:Nat))=true from Ya (by omega)];refine iteF ?_;obtain ⟨y,hy⟩:∃ y,us[m]?=some y:=⟨_,Kp h1⟩;obtain ⟨r,er,hr⟩:=hb.get hy;exact ⟨_,Ja,_,Ja,l,us,_,_,Ja,Ja,SqL.of hl,atI_nat hy,q m r rfl er y H1 s1 hr⟩
   ·rw [show decide ((m:Int) < (us.length:Nat))=false from Qz (by omega)];refine iteT (qE (fun j e=>?_) _ s1);have e:(m:Int)=(j:Int):=Yd e;exact List.getElem?_eq_none (by rw [Yk]; omega)
  ·rw [Qz h0];refine iteF ⟨_,Ja,iteT (qE (fun j e=>?_) _ s1)⟩;have e:i=(j:Int):=Yd e;omega
 ·refine ⟨_,Ja,x,n,b1,b2,Ja,CP s1 (fun _ _=>aP) ty,k1,k2,_,Ja,?_⟩;rw [k3];exact iteT (qE (fun j e=>nomatch e) _ s1)
abbrev zl3:List Str:=[aA]
theorem zhu:FnScope zl3 [aA] (defScope HE):=fS
theorem zgp {bX:Addr} (B:BI mg) (dB:Own K mg "NoNumber" bX) (zI:Got P w K mg base dN [aA] (1) (HX K)) (F:Fun K c9 c9 HE f fd):FnOk P w K mg base (L2.CX P w) (2) f fd [aA] (WJ K bX):=by
 refine F.okX zhu (fun vs H Q E h=>?_) (fun _ A _ _ H vs Q E hr h=>?_)
 ·obtain ⟨v,o,rfl,_⟩:=h
  rfl
 obtain ⟨v,o,rfl,hv,q1,q2⟩:=h;have bA:=bt hr;refine ⟨_,Qe (Qr (PW.pt (Kk (Qp (Qo (aT zI (Hm hr) rfl (Qa (pv 0) Qb)))) (pw_or1 (pt_cmpR op_lt (pv 0) Qg (nomark _))))) (Qe (ps_raise rfl (takes_of rfl rfl rfl rfl) (pmk_own PySem.F.excBase_ValueError dB.q dB.gC dB.k (raises_own dB.s dB.t) rfl))) pss_nil),?_⟩;rcases hv with ⟨i,rfl,rfl⟩ | ⟨rfl,n,b1,b2,ty,k1,k2,k3⟩
 ·refine ⟨_,rfl,_,"int",true,false,rfl,.base (.int i),by decide +kernel,fun _=>by decide +kernel,true,rfl,iteF ?_⟩;refine ⟨_,Ja,_,_,Ja,Ja,_,Ja,?_⟩;by_cases h:i < 0
  ·rw [Ya h];exact iteT (q2 (fun n e=>by cases e; exact h) _ SB.refl)
  ·rw [Qz h];exact iteF (q1 ⟨i,Ja,by omega⟩ _ SB.refl)
 ·refine ⟨_,Ja,_,n,b1,b2,Ja,ty,k1,k2,_,Ja,?_⟩;rw [k3];exact iteT (q2 (fun n e=>nomatch e) _ SB.refl)
abbrev zl5:List Str:=[ah]
theorem zio:FnScope zl5 [ah] (defScope GF):=fS
theorem zhe {dC:Addr} (B:BI mg) (dA:Own K mg "TooGreat" dC) (cH:∃ t,mg "MOST_PARTS_STANDING"=some (.int (2000) t)) (cL:∃ t,mg "MOST_DEEP_STANDING"=some (.int (60) t)) (MN:Got P w K mg base iy [ah] (71) (Xh K 70)) (M8:Got P w K mg base gD [ah] (70) (FG K 70)) (F:Fun K d4 d4 GF f fd):FnOk P w K mg base (L2.CX P w) (72) f fd [ah] (Xz K dC):=by
 refine F.okX zio (fun vs H Q E h=>?_) (fun _ A _ _ H vs Q E hr h=>?_)
 ·obtain ⟨v,g,rfl,_⟩:=h
  rfl
 obtain ⟨v,g,rfl,hv,gd,gp,q,qE⟩:=h;obtain ⟨pP,ia⟩:=cH;obtain ⟨qT,iM⟩:=cL;have bA:=bt hr;refine ⟨_,Qe (Qr (PW.pt (Kk (pt_cmpR op_gt (aT MN (Hm hr) rfl (Qa (pv 0) Qb)) (pe_glob (v:=.int (2000)) rfl ia ⟨_,Ja⟩) (nomark _)) (pw_or1 (pt_cmpR op_gt (aT M8 (Hm hr) rfl (Qa (pv 0) Qb)) (pe_glob (v:=.int (60)) rfl iM ⟨_,Ja⟩) (nomark _))))) (Qe (ps_raise rfl (takes_of rfl rfl rfl rfl) (pmk_own PySem.F.excBase_ValueError dA.q dA.gC dA.k (raises_own dA.s dA.t) rfl))) pss_nil),?_⟩;refine ⟨_,Ja,v,g,Ja,hv,by omega,gp,fun H1 s1=>?_⟩;refine ⟨_,_,Ja,Ja,_,Ja,?_⟩;by_cases h1:g.parts<=2000
 ·rw [show decide ((2000:Int) < (g.parts:Nat))=false from Qz (by omega)];refine iteF ⟨_,Ja,v,g,Ja,hv.sb s1,by omega,gp,fun H2 s2=>?_⟩;refine ⟨_,_,Ja,Ja,_,Ja,?_⟩;by_cases h2:g.deep<=60
  ·rw [show decide ((60:Int) < (g.deep:Nat))=false from Qz (by omega)];exact iteF (q ⟨h1,h2⟩ _ (s1.trans s2))
  ·rw [show decide ((60:Int) < (g.deep:Nat))=true from Ya (by omega)];exact iteT (qE (fun z=>h2 z.2) _ (s1.trans s2))
 ·rw [show decide ((2000:Int) < (g.parts:Nat))=true from Ya (by omega)];exact iteT (qE (fun z=>h1 z.1) _ s1)
abbrev zki:List Str:=[aZ,aN,"once","each"]
theorem tX:FnScope zki [aZ,aN] (defScope HB):=fS
theorem zix (B:BI mg) (vS:Got P w K mg base fX [bp,aI] (2) (QK K)) (MH:Got P w K mg base uP [ah,a9] (1) (VR K)) (F:Fun K uS uS HB f fd):FnOk P w K mg base CX0 (3) f fd [aZ,aN] (VU K):=by
 refine F.ok tX (fun vs H Q E h=>?_) (fun _ A _ _ H vs Q E hr h=>?_)
 ·obtain ⟨v,r,n,rfl,_⟩:=h
  rfl
 obtain ⟨v,r,n,rfl,hv,ok,n0,nb,q⟩:=h;have bA:=bt hr;refine ⟨_,Qc (ps_asg (pv 0) (pg_tup rfl (Qi (pg_name (i:=2) tX.nd rfl (.inl rfl)) (Qi (pg_name (i:=3) tX.nd rfl (.inl rfl)) pgs_nil))))
  (Qe (Qj (aT vS (Hm hr) rfl (Qa (pv 2) (Qa (aT MH (Hm hr) rfl (Qa (pv 3) (Qa (pv 1) Qb))) Qb))))),?_⟩
 cases (hv:Dp K H v (.tuple [r.1.enc,r.2.enc])) with
 | @tup ad tK _ vo hda =>
 cases hda with
 | cons g1 hda =>
 cases hda with
 | cons g2 hda =>
 cases hda;rename_i v1 v2;have h1:GA K H v1 r.1:=g1;have h2:GA K H v2 r.2:=g2;obtain ⟨o1,o2,pp⟩:=ok;have d1:=Gr.ew r.1;have d2:=Gr.ew r.2;have l1:=r.1.aF;have l2:=r.2.aF;refine ⟨_,Ja,ad,_,Ja,vo,Ja,_,_,Ja,_,_,Ja,Ja,?_⟩;refine ⟨_,Ja,_,Ja,_,Ja,v2,r.2,n,Ja,h2,by omega,fun p hp=>?_,n0,?_,fun x H2 s2 hx=>?_⟩
 ·obtain ⟨_,_,a,c⟩:=Gr.bW o2 hp;exact ⟨by omega,Int.lt_of_lt_of_le c (by decide +kernel)⟩
 ·exact Int.lt_of_lt_of_le nb (by decide +kernel)
 have hm:=Gr.fZ o2 (by omega) n0;have e1:=Gr.u6 r.2 n;have e2:=Gr.gK r.2 n;exact ⟨_,_,r.1,Gr.dJ r.2 n,Ja,h1.sb s2,hx,⟨_,o1.mono (C:=1000000001*n+1000000001) (by omega),hm⟩,by omega,by omega,by omega,by omega,fun y H3 s3 hy=>q y H3 (s2.trans s3) hy⟩
abbrev zld:List Str:=[aq,"kind",aN]
theorem zht:FnScope zld [aq,"kind",aN] (defScope Hw):=fS
theorem zgu {ae aw:Addr} (B:BI mg) (ES:z2n P w K mg base ae "spreads" [a8,aO] (4) (Oo K ae aw)) (F:Fun K c7 c7 Hw f fd):FnOk P w K mg base CX0 (5) f fd [aq,"kind",aN] (Vu K ae):=by
 refine F.ok zht (fun vs H Q E h=>?_) (fun _ A _ _ H vs Q E hr h=>?_)
 ·obtain ⟨v,b,k,n,rfl,_⟩:=h
  rfl
 obtain ⟨v,b,k,n,rfl,hv,bl,hk,q⟩:=h;refine ⟨_,Qc (Qr (Qo (WR ES (Hm hr) (pv 0) (Qa (pv 1) Qb))) (Qe (Qj (pv 2))) pss_nil)
  (Qe (Qj Qg)),?_⟩
 obtain ⟨kd,eg⟩:=Bk.dw hk;obtain ⟨va,xW,Iz,Iy,rfl,yJ⟩:=hv.at;refine ⟨_,Ja,va,xW,_,Ja,yJ,Ja,_,Ja,_,b,k,Ja,hv,bl,fun F5 e H1 s1=>?_,fun z=>by rw [eg] at z; cases z⟩;have hq:=q H1 s1;unfold Bk.far at hq;rw [e] at hq;dsimp only at hq;refine ⟨_,Ja,?_⟩;cases hw:F5.w with
 | true=>rw [hw,if_pos rfl] at hq; exact iteT ⟨_,Ja,hq⟩
 | false=>rw [hw,if_neg (by decide)] at hq; exact iteF hq
abbrev zkm:List Str:=[aq,ah,bq,pE,aN,bN,"left","kind","held",NH,"path","changed","row"]
theorem gX:FnScope zkm [aq,ah,bq,pE,aN] (defScope Hr):=fS
theorem zdq {ae:Addr} {ps:List Str}:FnOk P w K mg base CX0 k f fd ps (FL K ae 0):=tG fun vs H Q E ⟨v,w,fv,a,n,D,F,b,g,fr,pl,k,_,_,_,_,_,_,h,_⟩=>by omega
theorem zhq {m:Nat} {ae:Addr} (B:BI mg) (MG:Got P w K mg base j6 [ah,bN,a9] (1) (Xg K)) (vS:Got P w K mg base fX [bp,aI] (2) (QK K)) (zF:Got P w K mg base gV [aq,ah,bq,pE,aN] (m+6) (FL K ae m)) (M0:Got P w K mg base c7 [aq,"kind",aN] (5) (Vu K ae)) (MP:Got P w K mg base gy [ah,bN] (1) (VO K)) (F:Fun K gV gV Hr f fd):FnOk P w K mg base CX0 (m+7) f fd [aq,ah,bq,pE,aN] (FL K ae (m+1)):=by
 refine F.ok gX (fun vs H Q E h=>?_) (fun _ A _ _ H vs Q E hr h=>?_)
 ·obtain ⟨v,w,fv,a,n,D,F,b,g,fr,pl,k,rfl,_⟩:=h
  rfl
 obtain ⟨v,w,fv,a,n,D,F,b,g,fr,pl,k,rfl,⟨hv,ok⟩,⟨hw,go,gd,gp,gn⟩,⟨hf,F1,fo,fd4,fp4⟩,fy,hb,hm,n0,q⟩:=h;have bA:=bt hr;refine ⟨_,Qc (ps_set (i:=5) gX.nd rfl (.inl rfl) (Qm Ql (Qm Ql (pv 1) (Qm Ql (pv 2) Qg (fun _ _=>rfl)) (fun _ _=>rfl)) Qg (fun _ _=>rfl)))
  (Qc (ps_set (i:=6) gX.nd rfl (.inl rfl) (aT MG (Hm hr) rfl (Qa (pv 1) (Qa (pv 5) (Qa Qg Qb)))))
  (Qc (Qr (pt_cmpR op_eq (Qs call_len_seq rfl B.len PySem.boot_len (Qa (pv 2) Qb)) Qg (nomark _)) (Qe (Qj (Ka (Qa (aT vS (Hm hr) rfl (Qa (pv 6) (Qa (pv 3) Qb))) (Qa (Ka Qb) Qb))))) pss_nil)
  (Qc (ps_asg (pv 5) (pg_tup rfl (Qi (pg_name (i:=7) gX.nd rfl (.inl rfl)) (Qi (pg_name (i:=8) gX.nd rfl (.inl rfl)) pgs_nil))))
  (Qc (ps_asg (aT zF (Hm hr) rfl (Qa (pv 0) (Qa (pv 8) (Qa (pe_slice CS (pv 2) (po_some Qg) po_none) (Qa (pv 3) (Qa (pv 4) Qb)))))) (pg_tup rfl (Qi (pg_name (i:=9) gX.nd rfl (.inl rfl)) (Qi (pg_name (i:=10) gX.nd rfl (.inl rfl)) pgs_nil))))
  (Qc (ps_set (i:=11) gX.nd rfl (.inl rfl) (Ka (Qa (pv 7) (Qa (pv 9) Qb))))
  (Qc (ps_set (i:=12) gX.nd rfl (.inl rfl) (aT vS (Hm hr) rfl (Qa (pv 6) (Qa (Ka (Qa (Ka (Qa (pv 11) (Qa (pe_op Ko Qg (aT M0 (Hm hr) rfl (Qa (pv 0) (Qa (pv 7) (Qa (pv 4) Qb))))) Qb))) Qb)) Qb))))
  (Qe (Qj (Ka (Qa (pv 12) (Qa (pe_op zT (Ka (Qa (aT MP (Hm hr) rfl (Qa (pv 12) (Qa (pv 11) Qb))) Qb)) (pv 10)) Qb))))))))))),?_⟩
 have b8:=ok.len;obtain ⟨i,r,rfl⟩:∃ i r,pl=i::r:=by
  cases pl with
  | nil=>exact absurd hb (by intro z; cases z)
  | cons i r=>exact ⟨i,r,Ja⟩
 obtain ⟨ga,gs,rfl,i3,qX⟩:=nH hw;have O9:=g.aF;obtain ⟨p,ep⟩:∃ p,g.ps[i]?=some p:=by
  by_cases hr:r=[]
  ·subst hr;obtain ⟨p,e,_⟩:=Gr.bT hb;exact ⟨p,e⟩
  ·obtain ⟨p,e,_⟩:=Gr.bC hr hb;exact ⟨p,e⟩
 have pm:=Qu ep;obtain ⟨n1,o1,_,_⟩:=Gr.bW go pm;have pd:=g.av p pm;have pp:=g.bu p pm;obtain ⟨vp,TV,fz⟩:=qX.at ep;obtain ⟨ad,bd,ux,rfl,h1,h2,h3,h4⟩:=nP fz;have AF:=Gr.fF hb;have hC:=Gr.pB go pm;have w1:=Gr.iC go (t:=p.1) (m:=1) (by omega);have w2:=Gr.pM g p.1 1;have w3:=Gr.CZ g p.1 1;have frl:=fr.aF;refine ⟨_,Ja,_,Ja,a,_,_,_,Ja,Ja,fy,atI_nat (j:=0) rfl,ga,gs,_,_,Ja,Ja,i3,atI_nat TV,ad,_,_,_,Ja,Ja,h1,atI_nat (j:=0) rfl,?_⟩;refine ⟨_,Ja,_,Ja,_,_,g,p.1,1,Ja,hw,h4,⟨D,go,o1⟩,n1,by omega,by omega,by omega,fun left H1 s1 BX=>?_⟩;have JB:=s1.aL fy;refine ⟨_,Ja,a,_,Ja,.inr JB,Ja,_,Ja,?_⟩;by_cases hr:r=[]
 ·subst hr;refine iteT ⟨_,Ja,_,Ja,left,fv,Gr.wo g p.1 1,fr,Ja,BX,hf.sb s1,⟨D+F,w1.mono (by omega),fo.mono (by omega)⟩,by omega,by omega,by omega,by omega,fun x H2 s2 hx=>?_⟩;refine ⟨Z0,fun T nT=>?_⟩;have t3:=Jb nT (.tup []);have hT:=iV (K:=K) t3;generalize upd H2 T _=H3 at t3 hT;refine ⟨dY,fun T2 yx=>?_⟩;have t4:=Jb yx (.tup [x,.ref T]);refine q T2 x (.ref T) _ (((s1.trans s2).trans t3).trans t4) (SqT.of Qt) ?_ ?_
  ·rw [Gr.fu ep]; exact hx.sb (t3.trans t4)
  ·rw [Gr.fu ep]; exact NJ (p:=[]) (t4.aL hT)
 have hlen:decide (V.int (((i::r).map fun n:Nat=>V.int (n:Int)).length:Nat)=V.int 1)=false:=by
  have:=List.length_pos_iff.mpr hr;simp only [Ye,Yk,V.int.injEq];exact Qz (by omega)
 rw [hlen];obtain ⟨p',Gj,bS⟩:=Gr.bC hr hb;have e:=ep.symm.trans Gj;cases e;obtain ⟨kn,pn⟩:=Gr.aR.mp gn p pm;refine iteF ⟨_,Ja,bd,_,Ja,s1.aL h2,Ja,_,_,Ja,_,_,Ja,Ja,?_⟩;refine ⟨_,Ja,_,Ja,_,Ja,_,Ja,a,_,Ja,JB,fun c H2 s2 hc=>?_⟩;rw [EB,Ky,List.drop_succ_cons,List.drop_zero] at hc;have lC:=s1.trans s2;rw [Yk] at hm AF;refine ⟨_,Ja,_,Ja,v,ux,fv,c,n,D,F,b,p.1.2,fr,r,k,Ja,⟨hv.ef lC,ok⟩,⟨h3.sb lC,o1,by omega,by omega,pn⟩,⟨hf.sb lC,F1,fo,fd4,fp4⟩,hc,bS,by omega,n0,fun t u pt H3 s3 ht hu hq=>?_⟩;obtain ⟨pa,rfl,lP⟩:=PB hq;refine ⟨t,_,Ja,ht,Ja,_,_,Ja,_,_,Ja,Ja,?_⟩;refine ⟨_,Ja,_,Ja,dY,fun T nT=>?_⟩;have t4:=Jb nT (.tup [.str p.1.1,u]);have hT:=iV (K:=K) t4;generalize upd H3 T _=H4 at t4 hT;have A9:Dp K H4 (.ref T) (Gr.aG (Gr.chg b n fr r p)):=.tup hT (.cons (.str _) (.cons (hu.sb t4) .nil));have FV:=s3.trans t4;have tc:=lC.trans FV;refine ⟨_,Ja,_,Ja,_,Ja,_,Ja,_,Ja,v,b,p.1.1,n,Ja,hv.ef tc,by omega,kn,fun H5 s5=>?_⟩;refine ⟨_,_,Ja,Ja,dY,fun T2 yx=>?_⟩;have t6:=Jb yx (.tup [.ref T,.int (1+b.far p.1.1 n)]);have sG:=iV (K:=K) t6;generalize upd H5 T2 _=H6 at t6 sG;refine ⟨lH,fun T3 RL=>?_⟩;have t7:=Jb RL (.tup [.ref T2]);have oU:=iV (K:=K) t7;generalize upd H6 T3 _=H7 at t7 oU;have sX:=(s5.trans t6).trans t7;have Sn:GA K H7 (.ref T3) (Gr.one (Gr.chg b n fr r p) (1+b.far p.1.1 n)):=CU (bs:=[(Gr.chg b n fr r p,1+b.far p.1.1 n)]) oU (.cons (CQ (t7.aL sG) (cI sX _ _ (Gr.ax _) A9)) .nil);obtain ⟨f0,f1⟩:=Bk.kS b p.1.1 n0;have io:=Gr.kA (b:=b) n0 F1 fo o1 bS;have id:=Gr.gL (b:=b) (n:=n) (fr:=fr) bS;have cd:(Gr.one (Gr.chg b n fr r p) (1+b.far p.1.1 n)).deep<=63:=by
  show max (1+(Gr.stk b n fr r p.1.2).1.deep) 0<=63;omega
 have hso:(Gr.one (Gr.chg b n fr r p) (1+b.far p.1.1 n)).Ok (D+F+n+2):=Gr.qf (t:=Gr.chg b n fr r p) n1 io (by omega) (by omega);refine ⟨left,.ref T3,Gr.wo g p.1 1,Gr.one (Gr.chg b n fr r p) (1+b.far p.1.1 n),Ja,((BX.sb s2).sb FV).sb sX,Sn,⟨_,w1.mono (by omega),hso⟩,by omega,cd,by omega,by rw [Gr.mB]; simp,fun row H8 s8 Jy=>?_⟩;obtain ⟨⟨D2,ro⟩,m2,rm⟩:=Gr.Bp (b:=b) n0 F1 fo go hr ep hb;have rd:(Gr.xi b n fr r g p).deep<=63:=Gr.lV (by omega) cd;have rl:(Gr.xi b n fr r g p).ps.length<=5000:=by
  have h1:=Om (nV (la Gr.aG) ((Gr.wo g p.1 1).ps++(Gr.one (Gr.chg b n fr r p) (1+b.far p.1.1 n)).ps));rw [(zU _).length_eq,Yf,Gr.mB] at h1;show (Gr.ki _ _).ps.length<=_;rw [Gr.tP,Gr.mB];unfold pS;simp only [Yk,List.length_nil] at h1;omega
 refine ⟨_,Ja,_,Ja,_,Ja,row,.ref T,Gr.xi b n fr r g p,Gr.chg b n fr r p,m2,Ja,Jy,cI (sX.trans s8) _ _ (Gr.ax _) A9,⟨D2,ro⟩,rd,rl,rm,fun H9 s9=>?_⟩;refine ⟨lH,fun T4 nT4=>?_⟩;have kj:=Jb nT4 (.tup [.int (Gr.pos (Gr.xi b n fr r g p) (Gr.chg b n fr r p):Nat)]);have yV:=iV (K:=K) kj;generalize upd H9 T4 _=xO at kj yV;have X9:=((sX.trans s8).trans s9).trans kj;have pl2:=Gr.rK (b:=b) (n:=n) (fr:=fr) bS;refine ⟨_,Ja,T4,pa,_,_,Ja,Ja,yV,(t4.trans X9).aL lP,by rw [Ye]; simp only [Yk,List.length_nil]; omega,fun c2 CB OD qD=>?_⟩;refine ⟨dY,fun T5 nT5=>?_⟩;have pT:=Jb nT5 (.tup [row,.ref c2]);refine q T5 row (.ref c2) _ (((tc.trans X9).trans OD).trans pT) (SqT.of Qt) ?_ ?_
 ·rw [Gr.cY ep hr];exact ((((Jy.sb s9).sb kj).sb OD).sb pT)
 ·rw [Gr.cY ep hr];exact NJ (pT.aL qD)
abbrev zj9:List Str:=[aq,aO,"found",aZ,"once","each"]
theorem l8:FnScope zj9 [aq,aO] (defScope GQ):=fS
theorem zgg {ae aw:Addr} (B:BI mg) (ET:z2n P w K mg base ae "rules" [a8,aO] (4) (N9 K ae aw)) (CC:Got P w K mg base iw [aO,aZ,"word",ah] (21) (Xn K)) (F:Fun K iu iu GQ f fd):FnOk P w K mg base (L2.CX P w) (22) f fd [aq,aO] (W0 K ae aw):=by
 refine F.okX l8 (fun vs H Q E h=>?_) (fun _ A _ _ H vs Q E hr h=>?_)
 ·obtain ⟨v,b,n,rfl,_⟩:=h
  rfl
 obtain ⟨v,b,n,rfl,hv,ok,qk,qE⟩:=h;have bA:=bt hr;refine ⟨_,Qc (ps_set (i:=2) l8.nd rfl (.inl rfl) (pe_lst Qb))
  (Qc (ps_for (passes_of rfl) rfl (zdt rfl B.enumerate (Wq ET (Hm hr) (takes_of rfl rfl rfl rfl) (pv 0) (Qa (pv 1) Qb))) (pg_tup rfl (Qi (pg_name (i:=3) l8.nd rfl (.inl rfl)) (Qi (pg_tup rfl (Qi (pg_name (i:=4) l8.nd rfl (.inl rfl)) (Qi (pg_name (i:=5) l8.nd rfl (.inl rfl)) pgs_nil))) pgs_nil)))
   (Qc (Kf (Kn Ki PySem.F.slot_list_extend PySem.F.type_list_extend mt_extend (pv 2) (Qa (aT CC (Hm hr) rfl (Qa (pv 1) (Qa (pv 3) (Qa pe_str (Qa (pv 4) Qb))))) Qb)))
  (Qe (Kf (Kn Ki PySem.F.slot_list_extend PySem.F.type_list_extend mt_extend (pv 2) (Qa (aT CC (Hm hr) rfl (Qa (pv 1) (Qa (pv 3) (Qa pe_str (Qa (pv 5) Qb))))) Qb))))))
  (Qe (Qj (pv 2)))),?_⟩
 have jy:=sizeLine_eq;obtain ⟨va,xW,Iz,Iy,rfl,yJ⟩:=hv.at;have b8:=ok.len;have ij:∀ k ∈ b,k.rs.length<=1000:=fun k hk=>by have:=(ok.kd k hk).2.1; omega
 refine ⟨(Z0),fun D hD=>?_⟩;have t1:=Jb hD (.lst []);have oi:=eZ t1;generalize upd H D _=H1 at t1 oi;refine ⟨_,Ja,va,xW,_,Ja,t1.keep _ _ yJ aP,Ja,_,Ja,_,b,n,Ja,hv.ef t1,by omega,ij,fun k eg ll us H2 s2 FZ xa qZ=>?_,fun z d H' s' nd hd=>qE z d H' (t1.trans s') (Classical.byContradiction fun y=>by
  have:=t1.kU d; exact y (t1.kU d nd)) hd⟩
 obtain ⟨hk,rfl⟩:=Bk.get_some eg;obtain ⟨kn,r4,rr⟩:=ok.kd k hk;have ul:=qZ.length;have lD:ll ≠ D:=fun z=>by rw [z,oi] at FZ; cases FZ
 have zl:(k.rs.zipIdx 1).length=k.rs.length:=List.length_zipIdx;have stl:=Kd.oA r4 fun r hr=>(rr r hr).1;refine ⟨ll,us,Ja,SqL.of xa,?_⟩;refine for_it (zbg (xs:=us)) (fun i σ H3=>SB [D] H2 H3/\∃ ws o3 o4 o5,σ=[some (.ref va),some (.str k.n),some (.ref D),o3,o4,o5]/\H3 D=some (.lst ws)/\Bears K H3 Sx.enc ws (((k.rs.zipIdx 1).take i).flatMap (vc k.n))) ⟨SB.refl,[],none,none,none,Ja,s2.keep _ _ oi aP,.nil⟩ (fun i σ H3 hi h3=>h3.1.fO (by simpa using lD) (SqL.of xa)) (fun i x σ H3 H' hi h3 y=>?_) (fun σ H3 h3=>?_)
 ·obtain ⟨s3,ws,o3,o4,o5,rfl,bH,hZ⟩:=h3;obtain ⟨T,e1,e2,rfl,hT,rfl,Mq,Mp⟩:=y;have Ae:e1=.int ((i+1:Nat):Int):=(Yd Mq).symm;subst Ae;obtain ⟨r,er,BP⟩:=qZ.get Mp;have Ga:=cI s3 _ _ (Ru.aj r) BP;have ez:(k.rs.zipIdx 1)[i]?=some (r,i+1):=by rw [List.getElem?_zipIdx,er,Nat.add_comm]; rfl
  have qx:((k.rs.zipIdx 1).take (i+1)).flatMap (vc k.n)=((k.rs.zipIdx 1).take i).flatMap (vc k.n)++Aq k.n (i+1) "once" r.1++Aq k.n (i+1) "each" r.2:=by
   rw [Yg,ez,List.flatMap_append];simp [vc]
  have hlen:(((k.rs.zipIdx 1).take (i+1)).flatMap (vc k.n)).length<=k.steps.length:=by
   show _<=((k.rs.zipIdx 1).flatMap (vc k.n)).length
   conv=>rhs; rw [<- List.take_append_drop (i+1) (k.rs.zipIdx 1),List.flatMap_append,Yf]
   omega
  rw [qx,Yf,Yf,FD,FD] at hlen;have wl:=hZ.length;cases (Ga:Dp K H3 e2 (.tuple [r.1.enc,r.2.enc])) with
  | @tup ad tK _ vo hda =>
  cases hda with
  | cons g1 hda =>
  cases hda with
  | cons g2 hda =>
  cases hda;rename_i u1 u2;have t4:=Jb hT (.tup [.int ((i+1:Nat):Int),.ref ad]);have yV:=iV (K:=K) t4;generalize upd H3 T _=H4 at t4 yV;have jD:=t4.keep _ _ bH aP;refine ⟨T,_,Ja,yV,Ja,_,_,Ja,_,_,Ja,⟨ad,_,Ja,t4.aL vo,Ja,_,_,Ja,_,_,Ja,Ja,Ja,?_⟩⟩;have d1:=r.1.ew;have d2:=r.2.ew;refine ⟨_,rfl,.inl ⟨rfl,_,SqL.of jD⟩,_,rfl,_,rfl,_,rfl,k.n,"once",i+1,u1,r.1,rfl,GA.sb g1 t4,by omega,by omega,fun l1 v1 H5 s5 OH i7 yT=>?_⟩;have eQ:=s5.keep _ _ jD aP;have v1l:=yT.length;rw [FD] at v1l;refine ⟨D,l1,_,_,Ja,Ja,eQ,i7,by omega,?_⟩;have t6:=SB.set (ps:=[D]) eQ (by simp) (.lst (ws++v1));have ti:=Bears.append (((hZ.sb t4 Sx.aj).sb s5 Sx.aj).sb t6 Sx.aj) (yT.sb t6 Sx.aj);have ie:upd H5 D (.lst (ws++v1)) D=some (.lst (ws++v1)):=Qt;have s6:=((s3.trans t4.nil).trans s5.nil).trans t6;have Pb:=GA.sb (GA.sb g2 t4) s5;have Pb:=GA.sb Pb t6;generalize upd H5 D _=H6 at t6 ti ie s6 Pb;refine ⟨_,rfl,.inl ⟨rfl,_,SqL.of ie⟩,_,rfl,_,rfl,_,rfl,k.n,"each",i+1,u2,r.2,rfl,Pb,by omega,by omega,fun l2 v2 H7 s7 Dx jC KD=>?_⟩;have tj:=s7.keep _ _ ie aP;have v2l:=KD.length;rw [FD] at v2l;refine ⟨D,l2,_,_,Ja,Ja,tj,jC,by rw [Yf]; omega,?_⟩;have t8:=SB.set (ps:=[D]) tj (by simp) (.lst (ws++v1++v2));refine ⟨(s6.trans s7.nil).trans t8,_,_,_,_,Ja,Qt,?_⟩;rw [qx];exact Bears.append ((ti.sb s7 Sx.aj).sb t8 Sx.aj) (KD.sb t8 Sx.aj)
 ·obtain ⟨s3,ws,o3,o4,o5,rfl,bH,hZ⟩:=h3;rw [ul,<- zl,Yh] at hZ;exact ⟨_,Ja,qk k eg D ws H3 ((t1.trans s2).nil.trans s3 |>.drop hD) hD bH hZ⟩
abbrev UW:List Str:=[aO,aZ,"word",ah,bq]
theorem tQ:FnScope UW [aO,aZ,"word",ah] (defScope E4):=fS
theorem zgy {cb:Addr} (B:BI mg) (zM:Got P w K mg base cj [ah] (20) (Fu K 20)) (zE:GotX P w K mg base ir [ah,bq] (2) (N4 K cb)) (F:Fun K iw iw E4 f fd):FnOk P w K mg base CX0 (21) f fd [aO,aZ,"word",ah] (Xn K):=by
 refine F.ok tQ (fun vs H Q E h=>?_) (fun _ A _ _ H vs Q E hr h=>?_)
 ·obtain ⟨n,wd,i,v,g,rfl,_⟩:=h
  rfl
 obtain ⟨n,wd,i,v,g,rfl,hv,hd,hp,q⟩:=h;have bA:=bt hr;refine ⟨_,Qe (Qj (pe_lc (own:=[(bq,4)]) (g:=(gName 4)) (tt:=tYes) (te:=(tTup (tCons (tTup (tCons (tVar 0) (tCons (tVar 1) (tCons (tVar 2) (tCons (tVar 4) tNil))))) (tCons (tOp (rIxT K) (tCall (N4 K cb) [] E0 (tCons (tVar 3) (tCons (tVar 4) tNil))) (tC (.int 0))) tNil)))) rfl tQ.nd (pi_list (aT zM (Hm hr) rfl (Qa (pv 3) Qb))) (blkOk_by (N:=UW) (sc:=defScope E4) (by decide +kernel)) (fun _ _ _ _ _=>(pg_name (i:=4) tQ.nd rfl (.inl rfl))) (fun _ _ _ _ _=>pts_nil) (fun _ _ _ _ _=>(Ka (Qa (Ka (Qa (pv 0) (Qa (pv 1) (Qa (pv 2) (Qa (pv 4) Qb))))) (Qa (Qm Ql (NW zE (Hm hr) rfl (Qa (pv 3) (Qa (pv 4) Qb))) Qg (fun _ _=>rfl)) Qb)))))),?_⟩;have jy:=sizeLine_eq;have RS:=g.nh 0;refine ⟨_,Ja,v,g,Ja,hv,hd,by omega,by omega,fun D us H1 s1 nD hD hb=>?_⟩;have vl:=hb.length;rw [Ye] at vl;refine ⟨D,Ja,⟨_,SqL.of hD⟩,fun L hL=>?_⟩;refine oo (walk_list (xs:=us)) hL (by omega) (fun j ws H2=>Bears K H2 Sx.enc ws (((g.ak 0).take j).map fun x:Pl × Str=>⟨n,i,wd,x.1,x.2⟩)) .nil (fun H2 s2=>s2.fO aP (SqL.of hD)) (fun _ _ _ _ e h=>h.sb e Sx.aj) (fun Pv j z Hq H2 ws hj s2 yz hR hw fin _=>?_) (fun ws H2 s2 hL2 hR hw=>?_)
 ·obtain ⟨rfl,ez⟩:=yz;obtain ⟨pl,Cu,fy⟩:=hb.get ez;rw [List.getElem?_map] at Cu;obtain ⟨x,ex,rfl⟩:=Kr Cu;obtain ⟨pa,rfl,lP⟩:=PB fy;obtain ⟨n1,t,e1,e2⟩:=g.zv x (Qu ex);refine ⟨rfl,?_⟩;refine ⟨_,Ja,_,Ja,_,Ja,_,Ja,(uO),fun T hT=>?_⟩;have t3:=Jb hT (.tup [.str n,.int (i:Int),.str wd,.ref pa]);have s3:=s2.trans t3;have oU:=iV (K:=K) t3;generalize upd H2 T _=H3 at t3 s3 oU;refine ⟨_,Ja,_,Ja,v,g,pa,_,ik x.1,Ja,hv.sb (s1.trans s3),s3.aL lP,Whs.pl K H3 x.1,fun t' _ et X H4 s4 hX=>?_,fun z=>?_⟩
  ·obtain rfl:t'=t:=Yd (et.symm.trans e1);cases (hX:Dp K H4 X (.tuple [.str t'.1,t'.2.enc])) with
   | tup hX1 hX2 =>
   cases hX2 with
   | cons k1 hX2 =>
   cases hX2 with
   | cons k2 hX2 =>
   cases hX2;cases k1;refine ⟨_,_,_,_,Ja,Ja,hX1,atI_nat (j:=0) rfl,(dY),fun T2 sG=>?_⟩;have t5:=Jb sG (.tup [.ref T,.str t'.1]);have FW:=(t3.trans s4).trans t5;refine fin _ _ FW ?_;rw [Yg,ex,Option.toList_some,Yj];refine Bears.append (hR.sb FW Sx.aj) (.cons ?_ .nil);show Dp K _ _ (.tuple [.tuple [.str n,.int (i:Int),.str wd,xP x.1],.str x.2]);rw [<- e2];exact .tup (SqT.of Qt) (.cons (.tup ((s4.trans t5).aL oU) (.cons (.str _) (.cons (.int _) (.cons (.str _) (.cons (cI (s2.trans FW) _ _ (vX _) fy) .nil))))) (.cons (.str _) .nil))
  ·rcases z with z | z
   ·exact absurd z n1
   ·rw [e1] at z; cases z
 ·rw [vl,Yh] at hR;exact q L ws H2 (s1.trans s2) (s1.kU L hL) hL2 hR
abbrev Vs:List Str:=[aq,aO,"step","kind"]
theorem pY:FnScope Vs [aq,aO] (defScope Fl):=fS
theorem zgf {ae aw:Addr} (B:BI mg) (MI:GotX P w K mg base iu [aq,aO] (22) (W0 K ae aw)) (F:Fun K uQ uQ Fl f fd):FnOk P w K mg base (L2.CX P w) (23) f fd [aq,aO] (PD K ae aw):=by
 refine F.okX pY (fun vs H Q E h=>?_) (fun _ A _ _ H vs Q E hr h=>?_)
 ·obtain ⟨v,b,n,rfl,_⟩:=h
  rfl
 obtain ⟨v,b,n,rfl,hv,ok,qk,qE⟩:=h;have bA:=bt hr;refine ⟨_,Qe (Qj (Qs (XC rfl) rfl B.sorted (by decide +kernel) (Qa (VH (own:=[("step",2),("kind",3)]) (g:=(gTup K 2 (gCons (gName 2) (gCons (gName 3) gNil)))) (tt:=tYes) (te:=(tVar 3)) rfl pY.nd (pi_list (tH MI (Hm hr) rfl (takes_of rfl rfl rfl rfl) (Qa (pv 0) (Qa (pv 1) Qb)))) (blkOk_by (N:=Vs) (sc:=defScope Fl) (by decide +kernel)) (fun _ _ _ _ _=>(pg_tup rfl (Qi (pg_name (i:=2) pY.nd rfl (.inl rfl)) (Qi (pg_name (i:=3) pY.nd rfl (.inl rfl)) pgs_nil)))) (fun _ _ _ _ _=>pts_nil) (fun _ _ _ _ _=>(pv 3))) Qb))),?_⟩;have scb:1000 < scanBound:=by decide +kernel
 refine ⟨_,Ja,_,Ja,v,b,n,Ja,hv,ok,fun k eg ll us H1 s1 FZ xa qZ=>?_,fun z d H' s' nd hd=>qE z d H' s' nd hd⟩;obtain ⟨hk,rfl⟩:=Bk.get_some eg;obtain ⟨kn,r4,rr⟩:=ok.kd k hk;have stl:=Kd.oA r4 fun r hr=>(rr r hr).1;have ul:=qZ.length;refine ⟨ll,Ja,⟨_,SqL.of xa⟩,fun D nD=>?_⟩;refine VD (walk_list (xs:=us)) nD (by omega) (fun i ss H2=>ss.Nodup/\∀ x,x ∈ ss ↔ x ∈ (k.steps.take i).map Sx.k) ⟨List.nodup_nil,by simp⟩ (fun H2 s2=>s2.fO aP (SqL.of xa)) (fun _ _ _ _ _ h=>h) (fun Pv i x Hq H2 ss hi s2 y hR hl fin _=>?_) (fun ss H2 s2 aV hR hl=>?_)
 ·obtain ⟨rfl,ey⟩:=y;obtain ⟨st,es,jB⟩:=qZ.get ey;cases (jB:Dp K H1 x (.tuple [st.st,.str st.k])) with
  | @tup ad tK _ vo hda =>
  cases hda with
  | cons g1 hda =>
  cases hda with
  | cons g2 hda =>
  cases hda;cases g2;refine ⟨ad,_,Ja,s2.aL vo,Ja,_,_,Ja,_,_,Ja,Ja,Ja,?_⟩;refine ⟨_,Ja,fin st.k _ SB.refl ⟨Xt hR.1,fun x=>?_⟩⟩;rw [We,hR.2,Yg,es,Yj,List.mem_append];simp [or_comm]
 ·rw [ul,Yh,Kd.rM] at hR;refine ⟨D,ss,Ja,aV,by omega,fun Ar p pm srt np=>?_⟩;have t3:=Jb np (.lst (Ar.map V.str));exact qk k eg p Ar _ ((s1.trans s2).trans t3) ((s1.trans s2).kU _ np) Qt (SrtOf.perm pm srt hR.1 hR.2)
abbrev Va:List Str:=[aq,"led",nO,pE,aO]
theorem kJ:FnScope Va [aq] (defScope Fo):=fS
theorem zh3 {ae aw:Addr} (B:BI mg) (zQ:GotM P w K mg base ae eF [a8] (1) (Il K ae)) (MR:GotX P w K mg base uQ [aq,aO] (23) (PD K ae aw)) (CD:Got P w K mg base gz ["led",nO] (1) (Xr K)) (F:Fun K cC cC Fo f fd):FnOk P w K mg base CX0 (24) f fd [aq] (QD K ae aw):=by
 refine F.ok kJ (fun vs H Q E h=>?_) (fun _ A _ _ H vs Q E hr h=>?_)
 ·obtain ⟨v,b,rfl,_⟩:=h
  rfl
 obtain ⟨v,b,rfl,hv,ok,q⟩:=h;have bA:=bt hr;refine ⟨_,Qc (zcu (i:=1) (own:=[(aO,4)]) (g:=(gName 4)) (tt:=tYes) (tk:=(tVar 4)) (tv:=(tCall (PD K ae aw) [] E0 (tCons (tVar 0) (tCons (tVar 4) tNil)))) rfl kJ.nd rfl rfl (zcx rfl rfl rfl (by decide +kernel)) (pi_list (QA zQ (Hm hr) (pv 0))) (blkOk_by (N:=Va) (sc:=defScope Fo) (by decide +kernel)) (fun _ _ _ _ _=>(pg_name (i:=4) kJ.nd rfl (.inl rfl))) (fun _ _ _ _ _=>pts_nil) (fun _ _ _ _ _=>(pv 4)) (fun _ _ _ _ _=>(NW MR (Hm hr) rfl (Qa (pv 0) (Qa (pv 4) Qb)))))
  (Qc (ps_set (i:=2) kJ.nd rfl (.inl rfl) (pe_lst Qb))
  (Qc (ps_set (i:=3) kJ.nd rfl (.inl rfl) (aT CD (Hm hr) rfl (Qa (pv 1) (Qa (pv 2) Qb))))
  (Qc (ps_while PassesOwn.never (pt_truth (pv 3) (by intro _; rfl)) (Qc (Kf (Kn Ki PySem.F.slot_list_extend PySem.F.type_list_extend mt_extend (pv 2) (Qa (pv 3) Qb)))
  (Qe (ps_set (i:=3) kJ.nd rfl (.inl rfl) (aT CD (Hm hr) rfl (Qa (pv 1) (Qa (pv 2) Qb)))))))
  (Qe (Qj (pv 2)))))),?_⟩
 have jy:=sizeLine_eq;have b8:=ok.len;have YA:b.names.length=b.length:=List.length_map ..;obtain ⟨va,xW,Iz,Iy,rfl,yJ⟩:=hv.at;refine ⟨_,Ja,va,xW,_,Ja,yJ,Ja,?_⟩;refine ⟨_,b,Ja,hv,by omega,fun nl H1 s1 nn hn=>?_⟩;refine ⟨nl,Ja,⟨_,SqL.of hn⟩,fun D nD=>?_⟩;refine zfk (walk_list (xs:=b.names.map V.str)) nD (by rw [Ye]; omega) (fun i aS H2=>LedAll K H2 aS (b.take i)/\∀ p ∈ aS,p.2 ≠ .ref D) ⟨.nil,by simp⟩ (fun H2 s2=>s2.fO aP (SqL.of hn)) (fun i aS H2 H3 s3 ⟨h1,h2⟩=>⟨h1.sb s3 fun p hp q hq=>by rw [Qy hq]; exact h2 p hp,h2⟩) (fun Pv i x Hq H2 aS hi s2 y hR hl aV fin _=>?_) (fun aS H2 s2 aV hR hl=>?_)
 ·obtain ⟨rfl,ey⟩:=y;rw [List.getElem?_map] at ey;obtain ⟨n,en,rfl⟩:=Kr ey;rw [List.getElem?_map] at en;obtain ⟨k,ek,rfl⟩:=Kr en;have km:=Qu ek;have eg:=Bk.gQ ok.nd km;obtain ⟨h1,h2⟩:=hR;have Sq:∀ p ∈ aS,p.1 ≠ Sum.inr k.n:=fun p hp z=>by
   have h3:p.1 ∈ (Bk.names (b.take i)).map (Sum.inr (α:=Int)):=by rw [<- h1.keys]; exact Ku ⟨p,hp,Ja⟩
   rw [z] at h3;obtain ⟨m,hm,e⟩:=Qx h3;have e:=Sum.inr.inj e;subst e;exact zaz ok.nd ek hm
  refine ⟨rfl,_,Ja,_,Ja,_,Ja,_,b,k.n,Ja,(hv.ef s1).ef s2,ok,fun k' e' l ss H3 s3 YE D7 so=>?_,fun z=>by rw [eg] at z; cases z⟩;rw [eg] at e';cases e';refine fin (Sum.inr k.n) (.ref l) H3 s3 ?_;rw [Ii Sq,Yg,ek];refine ⟨(h1.sb s3 (by simp)).append (.cons D7 so .nil),fun p hp=>?_⟩;rcases Qw hp with hp | hp
  ·exact h2 p hp
  ·rw [Qy hp];intro z;rw [V.ref.inj z,aV] at YE;cases YE
 obtain ⟨hk,hkD⟩:=hR;rw [Ye,YA,Yh] at hk;have jz:=s1.trans s2;refine ⟨Z0,fun E nE=>?_⟩;have t3:=Jb nE (.lst []);have O6:=eZ t3;have hkE:=hk.ne nE;have bH:=t3.keep _ _ aV aP;have A3:=hk.sb t3 (by simp);have hO:=jz.trans t3;have YJ:H E=none:=jz.kU _ nE;have DE:D ≠ E:=ne_of_none aV nE;generalize upd H2 E _=H3 at t3 O6 bH A3 hO;refine ⟨_,Ja,_,Ja,D,E,b,[],aS,Ja,bH,A3,O6,ok,fun F H4 s4 nF hF=>?_⟩;refine cJ ⟨fun m σ H5=>∃ (es:List Str) (F:Addr),m=9-es.length/\σ=[some (.ref va),some (.ref D),some (.ref E),some (.ref F),none]/\SB [] H H5/\H5 D=some (.dK aS)/\LedAll K H5 aS b/\H5 E=some (.lst (es.map V.str))/\H5 F=some (.lst ((b.names.filter (into b es)).map V.str))/\F ≠ E/\es.Nodup/\(∀ n ∈ es,n ∈ b.names)/\(∀ n ∈ es,EndK b n)/\∀ (i:Nat) (n:Str),es[i]?=some n->∀ k ∈ adj b n,k ∈ es.take i,
  ⟨9,[],F,rfl,rfl,hO.trans s4,s4.keep _ _ bH aP,A3.sb s4 (by simp),s4.keep _ _ O6 aP,hF,(fun z=>by rw [z,O6] at nF; cases nF),List.nodup_nil,by simp,by simp,by simp⟩,fun m σ H5 hW=>?_⟩
 obtain ⟨es,F,rfl,rfl,s5,eQ,A0,O5,Gh,FE,nd,sub,ends,ord⟩:=hW;have fl:=List.length_filter_le (into b es) b.names;have esl:es.length<=8:=by
  have:=nd.length_le_of_subset (l₂:=b.names) sub;omega
 refine ⟨_,Ja,_,.inl ⟨_,SqL.of Gh,Ja⟩,?_⟩;by_cases hf:b.names.filter (into b es)=[]
 ·rw [hf];refine iteF ⟨_,Ja,q E es H5 s5 YJ O5 ⟨nd,esl,fun n=>⟨fun h=>⟨sub n h,ends n h⟩,fun h=>zaw ok hf h.2 h.1⟩,ord⟩⟩
 ·rw [show (!((b.names.filter (into b es)).map V.str).isEmpty)=true by
   cases h:b.names.filter (into b es) with
   | nil=>exact absurd h hf
   | cons _ _=>rfl]
  refine iteT ⟨_,fun σ' H' h=>h,?_⟩;refine ⟨_,Ja,.inl ⟨rfl,_,SqL.of O5⟩,_,Ja,E,F,_,_,Ja,Ja,O5,Gh,by rw [Ye,Ye]; omega,?_⟩;rw [<- Yj];have t6:=SB.set (ps:=[E]) O5 (by simp) (.lst ((es++b.names.filter (into b es)).map V.str));have O4:upd H5 E (.lst ((es++b.names.filter (into b es)).map V.str)) E=some (.lst ((es++b.names.filter (into b es)).map V.str)):=Qt;have ie:=t6.keep _ _ eQ (by simpa using DE);have Sz:=A0.sb t6 fun p hp q hq=>by rw [Qy hq]; exact hkE p hp
  have s6:SB [] H (upd H5 E (.lst ((es++b.names.filter (into b es)).map V.str))):=((s5.nil (ps:=[E])).trans t6).drop YJ;generalize upd H5 E _=H6 at t6 O4 ie Sz s6;refine ⟨_,Ja,_,Ja,D,E,b,es++b.names.filter (into b es),aS,Ja,ie,Sz,O4,ok,fun F2 H7 s7 YI hF2=>?_⟩;have wV:0 < (b.names.filter (into b es)).length:=List.length_pos_iff.mpr hf;refine ⟨9-(es++b.names.filter (into b es)).length,by rw [Yf]; omega,es++b.names.filter (into b es),F2,rfl,rfl,s6.trans s7,s7.keep _ _ ie aP,Sz.sb s7 (by simp),s7.keep _ _ O4 aP,hF2,(fun z=>by rw [z,O4] at YI; cases YI),?_,fun n hn=>?_,fun n hn=>?_,fun i n ei k hk=>?_⟩
  ·refine List.nodup_append.mpr ⟨nd,ok.nd.filter _,fun x hx y hy e=>?_⟩;subst e;have:=(List.mem_filter.mp hy).2;unfold into at this;rw [Bool.and_eq_true,decide_eq_true_eq] at this;exact this.1 hx
  ·rcases Qw hn with h | h
   ·exact sub n h
   ·exact (List.mem_filter.mp h).1
  ·rcases Qw hn with h | h
   ·exact ends n h
   ·have:=(List.mem_filter.mp h).2;unfold into at this;rw [Bool.and_eq_true,List.all_eq_true] at this;exact .mk fun k hk=>ends k (Ks (this.2 k hk))
  ·rcases Nat.lt_or_ge i es.length with hi | hi
   ·rw [List.getElem?_append_left hi] at ei;rw [List.take_append_of_le_length (by omega)];exact ord i n ei k hk
   ·rw [List.getElem?_append_right hi] at ei;have:=(List.mem_filter.mp (Qu ei)).2;unfold into at this;rw [Bool.and_eq_true,List.all_eq_true] at this;have h3:=Ks (this.2 k hk);rw [List.take_append,List.take_of_length_le hi];exact jA _ h3
abbrev Pn:List Str:=["led",nO,aO,"kind"]
theorem mc:FnScope Pn ["led",nO] (defScope Fq):=fS
theorem zgw (B:BI mg) (F:Fun K gz gz Fq f fd):FnOk P w K mg base CX0 (1) f fd ["led",nO] (Xr K):=by
 refine F.ok mc (fun vs H Q E h=>?_) (fun _ A _ s H vs Q E hr h=>?_)
 ·obtain ⟨d,e,b,es,aS,rfl,_⟩:=h
  rfl
 obtain ⟨d,e,b,es,aS,rfl,hd,hk,he,ok,q⟩:=h;have bA:=bt hr;refine ⟨_,Qe (Qj (pe_lock (pe_lc (own:=[(aO,2)]) (g:=(gName 2)) (tt:=(tAnd (tTest (tOp (rIn K true) (tVar 2) (tVar 1))) (tB (tCB (rAll K) (tCons (tLc (iList K (tDGet (tVar 0) (tVar 2))) (gName 3) tYes (tOp (rIn K false) (tVar 3) (tVar 1)) [3]) tNil))))) (te:=(tVar 2)) rfl mc.nd (pi_keys (pv 0)) (blkOk_by (N:=Pn) (sc:=defScope Fq) (by decide +kernel)) (fun _ _ _ _ _=>(pg_name (i:=2) mc.nd rfl (.inl rfl))) (fun _ _ _ _ _=>(pts_one (PW.pt (Kl (pt_cmpR op_notIn_seq (pv 2) (pv 1) (by rfl)) (pw_and1 (Qo (Qs (cr_all rfl) rfl B.all boot_all (Qa (pe_lc (own:=[("kind",3)]) (g:=(gName 3)) (tt:=tYes) (te:=(tOp (rIn K false) (tVar 3) (tVar 1))) rfl mc.nd (pi_list (pe_dget (u1 hr) (pv 0) (pv 2) (fun _ _=>rfl))) (blkOk_by (N:=Pn) (sc:={ kind:=.function,names:=[(".0",.local),(aO,.local),("all",.globalImplicit),(nO,.cell),("led",.cell)],isGenerator:=false,isCoroutine:=false }) (by decide +kernel)) (fun _ _ _ _ _=>(pg_name (i:=3) mc.nd rfl (.inl rfl))) (fun _ _ _ _ _=>pts_nil) (fun _ _ _ _ _=>(pe_cmpR op_in_seq (pv 3) (pv 1) (by rfl)))) Qb)))))))) (fun _ _ _ _ _=>(pv 2))))),?_⟩;have jy:=sizeLine_eq;have b8:=ok.len;have kl:=hk.length;refine ⟨d,_,hd,trivial,fun od=>?_⟩;have hL:∀ l xs,H l=some (.lst xs)->upd H d (.frz od (.dK aS)) l=some (.lst xs):=fun l xs h=>by rw [upd_ne (fun z=>by rw [z,hd] at h; cases h)]; exact h
 have Y7:=hk.keep hL;have Za:=hL _ _ he;have xc:upd H d (.frz od (.dK aS)) d=some (.frz od (.dK aS)):=Qt;have un:∀ H',SB [] (upd H d (.frz od (.dK aS))) H'->SB [] H (upd H' d (.dK aS)):=fun H' s=>s.unlock hd (fun _ z=>nomatch z) (fun _ _ z=>nomatch z);have dm:∀ p,upd H d (.frz od (.dK aS)) p=none->H p=none:=fun p h=>by
  have z:p ≠ d:=fun z=>by rw [z,Qt] at h; cases h
  rwa [upd_ne z] at h
 generalize upd H d _=HL at Y7 Za xc un dm;refine ⟨_,Ja,d,od,Ja,.inl ⟨aS,xc,fun D nD=>?_⟩⟩;refine oo walk_keys nD (by omega) (fun i us _=>us=((b.names.take i).filter (into b es)).map V.str) rfl (fun H2 s2=>s2.frzs _ _ _ xc) (fun _ _ _ _ _ h=>h) (fun Pv i x Hq H2 us hi s2 y hR hu fin skip=>?_) (fun us H2 s2 aV hR hu=>?_)
 ·obtain ⟨rfl,k0,v0,ek,rfl⟩:=y;obtain ⟨kd,ZQ,e0⟩:=hk.get ek;have e0:k0=Sum.inr kd.n:=e0;subst e0;have km:=Qu ZQ;have ea:=Bz ok km;obtain ⟨l,ss,hv,hl,so⟩:=Y7.val (Bk.gQ ok.nd km);have en:b.names[i]?=some kd.n:=by rw [List.getElem?_map,ZQ]; rfl
  have qY:=s2.keep _ _ Za aP;have jC:=s2.keep _ _ hl aP;have hd2:=s2.frzs _ _ _ xc;have oM:((b.names.take (i+1)).filter (into b es)).map V.str=((b.names.take i).filter (into b es)).map V.str++(if into b es kd.n=true then [V.str kd.n] else []):=by
   rw [Yg,en,List.filter_append,Yj]
   congr 1
   by_cases z:into b es kd.n=true
   ·simp [z]
   ·simp [z]
  refine ⟨rfl,_,Ja,_,Ja,e,_,Ja,.inl (SqL.of qY),Ja,FQ _,_,Ja,?_⟩;rw [if_pos rfl];show if (!inV (.str kd.n) (es.map V.str))=true then _ else _;rw [FH];by_cases h1:kd.n ∈ es
  ·rw [show (!decide (kd.n ∈ es))=false by simp [h1]];refine iteF (skip _ SB.refl ?_);rw [oM,show into b es kd.n=false by simp [into,h1],hR]; simp
  ·rw [show (!decide (kd.n ∈ es))=true by simp [h1]];refine iteT ?_;have sl:ss.length < 1000:=by
    have h2:=so.nd.length_le_of_subset (l₂:=b.names) fun x hx=>ok.led km x ((so.mem x).mp hx);rw [Ye] at h2;omega
   refine ⟨_,Ja,_,Ja,d,.ref l,Ja,zmh (.inr ⟨_,hd2⟩) hv,l,Ja,⟨_,SqL.of jC⟩,fun D2 F0=>?_⟩;refine oo (walk_list (xs:=ss.map V.str)) F0 (by rw [Ye]; omega) (fun j us _=>us=((ss.take j).map fun k=>decide (k ∈ es)).map V.bl) rfl (fun H4 s4=>s4.fO aP (SqL.of jC)) (fun _ _ _ _ _ h=>h) (fun Pv j z Hq H4 us4 hj s4 y B6 hu4 TQ _=>?_) (fun us4 H4 s4 jD B6 hu4=>?_)
   ·obtain ⟨rfl,ez⟩:=y;rw [List.getElem?_map] at ez;obtain ⟨sx,ex,rfl⟩:=Kr ez;refine ⟨rfl,_,Ja,_,Ja,e,_,Ja,.inl (SqL.of (s4.keep _ _ qY aP)),Ja,FQ _,?_⟩;refine TQ _ _ SB.refl ?_;rw [B6,Yg,ex];simp [FH]
   ·subst B6;refine ⟨D2,_,Ja,SqL.of jD,_,Ja,?_⟩;have Ub:((ss.take (ss.map V.str).length).map fun k=>decide (k ∈ es)).all id=(adj b kd.n).all fun k=>decide (k ∈ es):=by
     rw [Ye,Yh,List.all_map,ea,<- zf2 so]; rfl
    rw [Ub];have ei:into b es kd.n=(adj b kd.n).all fun k=>decide (k ∈ es):=by unfold into; simp [h1]
    by_cases h3:((adj b kd.n).all fun k=>decide (k ∈ es))=true
    ·rw [h3];refine iteT ⟨_,Ja,fin _ _ s4 ?_⟩;rw [oM,ei,h3,hR]; rfl
    ·have h3:((adj b kd.n).all fun k=>decide (k ∈ es))=false:=by simpa using h3
     rw [h3];refine iteF (skip _ s4 ?_);rw [oM,ei,h3,hR]; simp
 ·subst hR;have hd2:=s2.frzs _ _ _ xc;have Dd:D ≠ d:=fun z=>by rw [z,xc] at nD; cases nD
  refine ⟨hd2,q D _ (un _ s2) (dm _ nD) ?_⟩;rw [upd_ne Dd,aV,kl,<- show b.names.length=b.length from List.length_map ..,Yh]
abbrev Vg:List Str:=[aq,nO,aO]
theorem p8:FnScope Vg [aq] (defScope EV):=fS
theorem zgz {ae aw:Addr} (B:BI mg) (zK:Got P w K mg base cC [aq] (24) (QD K ae aw)) (zQ:GotM P w K mg base ae eF [a8] (1) (Il K ae)) (F:Fun K cM cM EV f fd):FnOk P w K mg base CX0 (25) f fd [aq] (Xa K ae aw):=by
 refine F.ok p8 (fun vs H Q E h=>?_) (fun _ A _ _ H vs Q E hr h=>?_)
 ·obtain ⟨v,b,rfl,_⟩:=h
  rfl
 obtain ⟨v,b,rfl,hv,ok,q⟩:=h;have bA:=bt hr;refine ⟨_,Qc (ps_set (i:=1) p8.nd rfl (.inr rfl) (aT zK (Hm hr) rfl (Qa (pv 0) Qb)))
  (Qe (Qj (Qs cr_sortedS rfl B.sorted (by decide +kernel) (Qa (pe_lc (own:=[(aO,2)]) (g:=(gName 2)) (tt:=(tTest (tOp (rIn K true) (tVar 2) (tVar 1)))) (te:=(tVar 2)) rfl p8.nd (pi_list (QA zQ (Hm hr) (pv 0))) (blkOk_by (N:=Vg) (sc:=defScope EV) (by decide +kernel)) (fun _ _ _ _ _=>(pg_name (i:=2) p8.nd rfl (.inl rfl))) (fun _ _ _ _ _=>(pts_one (pt_cmpR op_notIn_seq (pv 2) (pv 1) (by rfl)))) (fun _ _ _ _ _=>(pv 2))) Qb)))),?_⟩
 have jy:=sizeLine_eq;have b8:=ok.len;refine ⟨_,Ja,v,b,Ja,hv,ok,fun l es H1 s1 nl hl eo=>?_⟩;have hm:∀ n ∈ b.names,n ∈ es ↔ EndK b n:=fun n hn=>⟨fun h=>((eo.mem n).mp h).2,fun h=>(eo.mem n).mpr ⟨hn,h⟩⟩;obtain ⟨va,xW,Iz,Iy,rfl,yJ⟩:=hv.at;refine ⟨_,Ja,va,xW,_,Ja,s1.keep _ _ yJ aP,Ja,?_⟩;refine ⟨_,b,Ja,hv.ef s1,by omega,fun Dx H2 s2 nn hn=>?_⟩;have jC:=s2.keep _ _ hl aP;refine ⟨Dx,Ja,⟨_,SqL.of hn⟩,fun D nD=>?_⟩;have YA:b.names.length=b.length:=List.length_map ..;refine oo (walk_list (xs:=b.names.map V.str)) nD (by rw [Ye]; omega) (fun i us _=>us=((b.names.take i).filter fun n=>decide (n ∉ es)).map V.str) rfl (fun H3 s3=>s3.fO aP (SqL.of hn)) (fun _ _ _ _ _ h=>h) (fun Pv i x Hq H3 us hi s3 y hR hu fin skip=>?_) (fun us H3 s3 bH hR hu=>?_)
 ·obtain ⟨rfl,ey⟩:=y;rw [List.getElem?_map] at ey;obtain ⟨n,en,rfl⟩:=Kr ey;refine ⟨rfl,_,Ja,_,Ja,l,_,Ja,.inl (SqL.of (s3.keep _ _ jC aP)),Ja,FQ _,_,Ja,?_⟩;rw [if_pos rfl,FH];have oM:((b.names.take (i+1)).filter fun n=>decide (n ∉ es)).map V.str=((b.names.take i).filter fun n=>decide (n ∉ es)).map V.str++(if n ∉ es then [V.str n] else []):=by
   rw [Yg,en,List.filter_append,Yj]
   congr 1
   by_cases z:n ∈ es
   ·simp [z]
   ·simp [z]
  by_cases h1:n ∈ es
  ·rw [show (!decide (n ∈ es))=false by simp [h1]];refine iteF (skip _ SB.refl ?_);rw [oM,if_neg (by simp [h1]),hR]; simp
  ·rw [show (!decide (n ∈ es))=true by simp [h1]];refine iteT ⟨_,Ja,fin _ _ SB.refl ?_⟩;rw [oM,if_pos h1,hR]
 ·rw [Ye,Yh] at hR;subst hR;refine ⟨D,_,Ja,SqL.of bH,?_,fun ys p pm srt np=>?_⟩
  ·have:=List.length_filter_le (fun n=>decide (n ∉ es)) b.names;omega
  have hO:=(s1.trans s2).trans s3;refine q p ys _ (hO.trans (Jb np _)) (hO.kU _ np) Qt srt (pm.nodup_iff.mpr (ok.nd.filter _)) fun n=>?_;rw [pm.mem_iff,List.mem_filter];simp only [decide_eq_true_eq];exact ⟨fun ⟨h1,h2⟩=>⟨h1,fun z=>h2 ((hm n h1).mpr z)⟩,fun ⟨h1,h2⟩=>⟨h1,fun z=>h2 ((hm n h1).mp z)⟩⟩
abbrev zl4:List Str:=[aq,ah,"endless","kind"]
theorem ua:FnScope zl4 [aq,ah] (defScope GP):=fS
theorem zge {eB ae aw:Addr} (B:BI mg) (kZ:OwnI P w K mg base "Endless" eB 1) (M6:Got P w K mg base cM [aq] (25) (Xa K ae aw)) (zH:Got P w K mg base cB [ah] (71) (P6 K)) (F:Fun K fj fj GP f fd):FnOk P w K mg base (L2.CX P w) (72) f fd [aq,ah] (VQ K ae aw eB):=by
 refine F.okX ua (fun vs H Q E h=>?_) (fun _ A _ _ H vs Q E hr h=>?_)
 ·obtain ⟨v,w,b,g,rfl,_⟩:=h
  rfl
 obtain ⟨v,w,b,g,rfl,hv,ok,hg,hd,hp,hk,q,qE⟩:=h;have bA:=bt hr;refine ⟨_,Qc (ps_set (i:=2) ua.nd rfl (.inl rfl) (aT M6 (Hm hr) rfl (Qa (pv 0) Qb)))
  (Qe (ps_for (passes_of rfl) rfl (pi_list (aT zH (Hm hr) rfl (Qa (pv 1) Qb))) (pg_name (i:=3) ua.nd rfl (.inl rfl))
   (Qe (Qr (pt_cmpR op_in_seq (pv 3) (pv 2) (by rfl)) (Qe (ps_raise rfl (takes_of rfl rfl rfl rfl) (WC kZ (Hm hr) rfl (pv 3)))) pss_nil)))),?_⟩
 refine ⟨_,Ja,v,b,Ja,hv,ok,fun l ss H1 s1 nl hl srt nd hm=>?_⟩;refine ⟨_,Ja,w,g,b.names,Ja,hg.sb s1,hd,hp,hk,by rw [Ye]; have:=ok.len; omega,fun l2 XZ H2 s2 Dx jC so sl=>?_⟩;refine ⟨l2,Ja,⟨_,SqL.of jC⟩,?_⟩;have yL:=s2.keep _ _ hl aP;have lC:=s1.trans s2;refine for_it (walk_list (xs:=XZ.map V.str)) (fun i σ H3=>SB [] H2 H3/\(∀ m ∈ XZ.take i,¬ ¬ EndK b m)/\∃ o3,σ=[some v,some w,some (.ref l),o3]) ⟨SB.refl,by simp,none,Ja⟩ (fun i σ H3 hi h3=>h3.1.fO aP (SqL.of jC)) (fun i x σ Hq H3 hi h3 y=>?_) (fun σ H3 h3=>?_)
 ·obtain ⟨s3,zr,o3,rfl⟩:=h3;obtain ⟨rfl,ey⟩:=y;rw [List.getElem?_map] at ey;obtain ⟨k,ek,rfl⟩:=Kr ey;obtain ⟨p,eT,e⟩:=Qx ((so.mem k).mp (Qu ek));have kb:k ∈ b.names:=e ▸ hk p eT;refine ⟨_,Ja,_,Ja,l,_,Ja,.inl (SqL.of (s3.keep _ _ yL aP)),Ja,FQ _,?_⟩;rw [FH];by_cases he:EndK b k
  ·rw [show decide (k ∈ ss)=false from Qz fun z=>((hm k).mp z).2 he];refine ⟨_,Ja,iteF ⟨s3,fun m qA=>?_,_,Ja⟩⟩;rw [Yg,ek] at qA;rcases Qw qA with z | z
   ·exact zr m z
   ·rw [Qy z]; exact fun z=>z he
  ·rw [show decide (k ∈ ss)=true from Ya ((hm k).mpr ⟨kb,he⟩)];refine ⟨_,Ja,iteT ⟨_,Ja,fun x nx=>?_⟩⟩;have hO:=lC.trans s3;exact qE k (.at so ek he zr) x _ (hO.trans (SB.new nx _)) (hO.kU _ nx) Qt
 ·obtain ⟨s3,zr,o3,rfl⟩:=h3;rw [Ye,Yh] at zr;exact q (fun x hx=>Classical.byContradiction fun z=>zr x.1.1 ((so.mem _).mpr (Ku ⟨x,hx,Ja⟩)) z) _ (lC.trans s3)
end
section
variable {P:Program} {w:World} {K:Qn} {mg:Str->Option Value} {base:Heap} {f:Addr} {fd:FuncData} {ps:List Addr}
theorem zgb:FnScope [a9] [a9] (defScope Hj):=fS
theorem zgm (F:Fun K aN aN Hj f fd):FnOk P w K mg base CX0 1 f fd [a9] (WT K):=by
 refine F.ok zgb (fun vs H Q E h=>?_) (fun _ A _ _ H vs Q E hr h=>?_)
 ·obtain ⟨v,rfl,_⟩:=h
  rfl
 obtain ⟨i,rfl,q⟩:=h;refine ⟨_,Qc (Qr (pt_cmpR op_eq (pv 0) Qg (nomark _)) (Qe (Qj (Ka Qb))) pss_nil)
  (Qe (Qj (Ka (Qa (Ka (Qa (Ka Qb) (Qa (pv 0) Qb))) Qb)))),?_⟩
 refine ⟨_,Ja,Ja,_,Ja,?_⟩;refine ite2 (fun c=>?_) (fun c=>?_)
 ·have c':V.int i=V.int 0:=Ks c
  injection c' with c'
  subst c';refine ⟨(Z0),fun p hp=>?_⟩;exact q _ _ (SB.new hp _) (Bx (SqT.of Qt))
 ·have c':¬ V.int i=V.int 0:=of_decide_eq_false (Bool.eq_false_iff.mpr c);have c2:¬ i=0:=fun z=>c' (by rw [z]);refine ⟨(Z0),fun p1 h1=>?_⟩;refine ⟨_,Ja,(dY),fun p2 h2=>?_⟩;refine ⟨(lH),fun p3 h3=>?_⟩;have e1:SB [] H (upd H p1 (.tup [])):=SB.new h1 _;have e2:=Jb h2 (.tup [.ref p1,.int i]);have e3:=Jb h3 (.tup [.ref p2]);refine q _ _ (e1.trans (e2.trans e3)) ?_;have e:Lad.num i=.cons .nil i .nil:=if_neg c2;rw [e];exact HV (SqT.of Qt) (e3.aL (SqT.of Qt)) ((Bx (SqT.of Qt)).sb (e2.trans e3))
end
section
variable {P:Program} {w:World} {K:Qn} {mg:Str->Option Value} {base:Heap} {f:Addr} {fd:FuncData} {ps:List Addr}
theorem zhg:FnScope [bp,aI] [bp,aI] (defScope Fc):=fS
theorem zg9 (F:Fun K fh fh Fc f fd):FnOk P w K mg base CX0 1 f fd [bp,aI] (Ft K):=by
 refine F.ok zhg (fun vs H Q E h=>?_) (fun uM A _ s H vs Q E hr h=>?_)
 ·obtain ⟨v,u,l,k,rfl,_⟩:=h
  rfl
 obtain ⟨v,u,l,k,rfl,hv,hu,hd,q⟩:=h;refine ⟨_,Qe (Qj (pe_cmpR (VB (by have:=hr.un; show A.units+3+100 < cLine; have h3:(A.deeper (envOfC fh (defScope Fc) s.heap.objs.size f uM)).units=A.units+3:=rfl; omega)) (pv 0) (pv 1) (nomark _))),?_⟩;have:=l.cz;exact ⟨_,Ja,_,Ja,l.enc,k.enc,hv,hu,l.dH k,l.y8,by omega,q⟩
end
section
variable {P:Program} {w:World} {K:Qn} {mg:Str->Option Value} {base:Heap} {f:Addr} {fd:FuncData}
theorem ub:FnScope [bp,aI,Ag] [bp,aI] (defScope Gz):=fS
theorem zi9 (B:BI mg) (F:Fun K d5 d5 Gz f fd):FnOk P w K mg base CX0 1 f fd [bp,aI] (VS K):=by
 refine F.ok ub (fun vs H Q E h=>?_) (fun _ A _ _ H vs Q E hr h=>?_)
 ·obtain ⟨v,u,l,k,rfl,_⟩:=h
  rfl
 obtain ⟨v,u,l,o,rfl,hv,hu,hd,hd2,hp,eT,q⟩:=h;have bA:=bt hr;refine ⟨_,Qc (ps_set (i:=2) ub.nd rfl (.inl rfl) Qg)
  (Qc (ps_while PassesOwn.never (PW.pt (Kl (pt_cmpR op_lt (pv 2) (Qs (call_min2 rfl) rfl B.min boot_min (Qa (Qs call_len_seq rfl B.len PySem.boot_len (Qa (pv 0) Qb)) (Qa (Qs call_len_seq rfl B.len PySem.boot_len (Qa (pv 1) Qb)) Qb))) (nomark _)) (pw_and1 (pt_cmpR (op_eqD (ig hr)) (Qm Ql (pv 0) (pv 2) (fun _ _=>rfl)) (Qm Ql (pv 1) (pv 2) (fun _ _=>rfl)) (nomark _)))))
   (Qe (ps_aug (i:=2) ub.nd rfl (.inl rfl) Qg ip_add)))
  (Qe (Qj (pv 2)))),?_⟩
 obtain ⟨a,xs,rfl,iq,gH⟩:=lz hv;obtain ⟨b,ys,rfl,hY,gG⟩:=lz hu;have xl:=gH.length;have yl:=gG.length;refine ⟨fun mm σ H2=>∃ k:Nat,mm=l.ps.length-k/\H2=H/\σ=[some (.ref a),some (.ref b),some (.int (k:Int))]/\k<=l.ps.length/\k<=o.ps.length/\l.alh o=k+(Lad.ofPs (l.ps.drop k)).alh (Lad.ofPs (o.ps.drop k)),⟨_,0,Ja,Ja,Ja,Nat.zero_le _,Nat.zero_le _,by rw [List.drop_zero,List.drop_zero,Lad.aC,Lad.aC,Nat.zero_add]⟩,fun mm σ H2 h2=>?_⟩;obtain ⟨k,rfl,rfl,rfl,kl,ko,he⟩:=h2;refine ⟨_,Ja,_,Ja,a,xs,Ja,.inr iq,_,Ja,b,ys,Ja,.inr hY,_,_,Ja,_,_,Ja,Ja,_,Ja,?_⟩;have fin:¬ (k < l.ps.length/\k < o.ps.length)->Q (.int (k:Nat)) H2:=fun hh=>by
  rw [Lad.Bq hh,Nat.add_zero] at he;rw [<- he]; exact q
 by_cases dZ:k < l.ps.length/\k < o.ps.length
 ·have c1:decide ((k:Int) < (if ((ys.length:Nat):Int) < (xs.length:Nat) then ((ys.length:Nat):Int) else (xs.length:Nat)))=true:=Ya (by split <;> omega);rw [c1];refine iteT ?_;have wU:xs[k]?=some xs[k]:=Kp (by omega);have wR:ys[k]?=some ys[k]:=Kp (by omega);obtain ⟨p1,sJ,gq⟩:=gH.get wU;obtain ⟨p2,pf,wX⟩:=gG.get wR;have d1:=l.av p1 (Qu sJ);have d2:=o.av p2 (Qu pf);rw [Lad.zt sJ pf] at he;refine ⟨_,Ja,_,Ja,a,xs,_,_,Ja,Ja,iq,atI_nat wU,_,Ja,_,Ja,b,ys,_,_,Ja,Ja,hY,atI_nat wR,Lad.aB p1,Lad.aB p2,gq,wX,Lad.dF (by omega),Lad.dF (by omega),_,Ja,?_⟩;rw [Lad.mY];by_cases hh:p1.1=p2.1/\p1.2=p2.2
  ·rw [show (decide (p1.1=p2.1)&&decide (p1.2=p2.2))=true by simp [hh.1,hh.2]];refine iteT ?_;rw [if_pos hh] at he;refine ⟨_,fun σ' H' z=>z,?_⟩;exact ⟨_,Ja,_,_,Ja,Ja,l.ps.length-(k+1),by omega,k+1,Ja,Ja,Ja,by omega,by omega,by omega⟩
  ·rw [show (decide (p1.1=p2.1)&&decide (p1.2=p2.2))=false by
    rw [Bool.and_eq_false_iff];by_cases h1:p1.1=p2.1
    ·exact .inr (Qz fun h2=>hh ⟨h1,h2⟩)
    ·exact .inl (Qz h1)]
   refine iteF ?_;rw [if_neg hh,Nat.add_zero] at he;refine ⟨_,Ja,?_⟩;rw [<- he]; exact q
 ·have c1:decide ((k:Int) < (if ((ys.length:Nat):Int) < (xs.length:Nat) then ((ys.length:Nat):Int) else (xs.length:Nat)))=false:=Qz (by split <;> omega);rw [c1];refine iteF ?_;exact ⟨_,Ja,fin dZ⟩
abbrev Vm:List Str:=[bp,aI,"exponent",a9,"kept","alike","pair"]
theorem jg:FnScope Vm [bp,aI] (defScope Fn):=fS
theorem zir (B:BI mg) (GL:Got P w K mg base fh [bp,aI] 1 (Ft K)) (GM:Got P w K mg base j9 [eE,aA] 1 (Wf K)) (F:Fun K iZ iZ Fn f fd):FnOk P w K mg base CX0 2 f fd [bp,aI] (N6 K):=by
 refine F.ok jg (fun vs H Q E h=>?_) (fun _ A _ _ H vs Q E hr h=>?_)
 ·obtain ⟨v,u,l,k,rfl,_⟩:=h
  rfl
 obtain ⟨v,u,l,k,rfl,hv,hu,hd,hd2,hp,eT,q⟩:=h;refine ⟨_,Qc (Qr (Qp (pt_truth (pv 1) (by intro _; rfl))) (Qe (Qj (pv 0))) pss_nil)
  (Qc (ps_asg (Qm Ql (pv 1) Qg (fun _ _=>rfl)) (pg_tup rfl (Qi (pg_name (i:=2) jg.nd rfl (.inr rfl)) (Qi (pg_name (i:=3) jg.nd rfl (.inl rfl)) pgs_nil))))
  (Qc (ps_set (i:=4) jg.nd rfl (.inl rfl) (pe_callTy call_tuple_of rfl B.tuple boot_tuple (Qa
   (pe_lc (own:=[("pair",6)]) (g:=gName 6) (tt:=tB (tCall (Ft K) [] E0 (tCons (tVar 2) (tCons (tOp (rIxT K) (tVar 6) (tC (.int 0))) tNil)))) (te:=tVar 6) rfl jg.nd (pi_tup (pv 0))
    (blkOk_by (N:=Vm) (sc:=defScope Fn) (by decide +kernel))
    (fun _ _ _ _ _=>pg_name (i:=6) jg.nd rfl (.inl rfl))
    (fun _ _ _ _ _=>pts_one (Qo (aT GL hr rfl (Qa (pv 2) (Qa (Qm Ql (pv 6) Qg (fun _ _=>rfl)) Qb)))))
    (fun _ _ _ _ _=>pv 6)) Qb)))
  (Qc (ps_set (i:=5) jg.nd rfl (.inl rfl) (aT GM hr rfl (Qa (pv 0) (Qa (pv 2) Qb))))
  (Qe (Qj (pe_op zT (pe_op zT (pv 4) (Ka (Qa (Ka (Qa (pv 2) (Qa (pe_op Ko (pv 5) (pv 3)) Qb))) Qb))) (pe_slice CS (pv 1) (po_some Qg) po_none))))))),?_⟩
 obtain ⟨b,ys,rfl,hY,gG⟩:=lz hu;refine ⟨_,Ja,_,.inr (.inl ⟨ys,hY,Ja⟩),?_⟩;cases k with
 | nil =>
  cases gG;refine iteT ?_;exact ⟨_,Ja,q v H SB.refl hv⟩
 | cons e m r =>
  rw [show (Lad.cons e m r).ps=(e,m)::r.ps from rfl] at gG;cases gG with
  | @cons y0 yr _ _ h0 hbr =>
  refine iteF ?_;obtain ⟨c,ue,rfl,oN,hle⟩:=nG h0;refine ⟨_,Ja,b,_,_,_,Ja,Ja,hY,atI_nat (j:=0) rfl,c,_,Ja,oN,Ja,_,_,Ja,_,_,Ja,Ja,?_⟩;obtain ⟨a,xs,rfl,iq,gH⟩:=lz hv;have bl:=gH.length;have lp:=l.aF;rw [<- Lad.bB] at lp;have ed:e.deep < (Lad.cons e m r).deep:=Lad.av (.cons e m r) (e,m) (bM ..);refine ⟨_,Ja,a,Ja,⟨xs,iq⟩,fun D hD=>?_⟩;refine lc_it (walk_tup (xs:=xs)) (fun i H2=>SB [D] H H2/\∃ acc,H2 D=some (.lst acc)/\Bears K H2 Lad.aB acc ((l.ps.take i).filter fun p=>e.lt p.1)) ⟨SB.new hD _,[],Qt,.nil⟩ (fun i H2 hi h2=>(h2.1.drop hD).aL iq) (fun i x H2 H' hi h2 y=>?_) (fun H2 h2=>?_)
  ·obtain ⟨s2,acc,aV,bS⟩:=h2;obtain ⟨rfl,ex⟩:=y;have i4:=s2.drop hD;obtain ⟨b1,eb,Bc⟩:=gH.get ex;obtain ⟨ad,ux,rfl,dM,xb⟩:=nG Bc;refine ⟨rfl,?_⟩;refine ⟨_,Ja,_,Ja,ad,_,_,_,Ja,Ja,i4.aL dM,atI_nat (j:=0) rfl,ue,ux,e,b1.1,Ja,hle.sb i4,xb.sb i4,by omega,_,Ja,?_⟩;have al:=bS.length;have fl:=List.length_filter_le (fun p:Lad × Int=>e.lt p.1) (l.ps.take i);rw [Kx] at fl;cases hc:e.lt b1.1 with
   | true =>
    refine iteT ?_;refine ⟨_,Ja,acc,aV,vW (by omega),?_⟩;have t9:=SB.set (ps:=[D]) aV (by simp) (.lst (acc++[.ref ad]));refine ⟨s2.trans t9,_,Qt,?_⟩;rw [Yg,eb,List.filter_append];refine Bears.append (bS.sb t9 Lad.af) ?_;have:([b1]:List (Lad × Int)).filter (fun p=>e.lt p.1)=[b1]:=by simp [hc]
    show Bears K _ Lad.aB _ (([b1]:List (Lad × Int)).filter (fun p=>e.lt p.1));rw [this];exact .cons (cI t9 _ _ (Lad.af _) (cI i4 _ _ (Lad.af _) Bc)) .nil
   | false =>
    refine iteF ?_;refine ⟨s2,acc,aV,?_⟩;rw [Yg,eb,List.filter_append];simpa [hc] using bS
  ·obtain ⟨s2,acc,aV,bS⟩:=h2;rw [bl,Yh] at bS;have i4:=s2.drop hD;refine ⟨D,acc,Ja,.inl ⟨SqL.of aV,fun kt Ad=>?_⟩⟩;have s3:=Jb Ad (.tup acc);have sZ:=i4.trans s3;refine ⟨_,Ja,_,Ja,_,ue,l,e,Ja,hv.sb sZ,hle.sb sZ,by omega,by omega,by omega,fun H4 s4=>?_⟩;refine ⟨_,Ja,_,Ja,_,Ja,_,Ja,_,_,Ja,Ja,(dY),fun t1 Se=>?_⟩;have s5:=Jb Se (.tup [ue,.int (Lad.aK l.ps e+m)]);refine ⟨(lH),fun t2 DO=>?_⟩;have s6:=Jb DO (.tup [.ref t1]);have al:=bS.length;have fl:=List.length_filter_le (fun p:Lad × Int=>e.lt p.1) l.ps;refine ⟨kt,t2,_,_,Ja,Ja,((s4.trans s5).trans s6).aL (SqT.of Qt),SqT.of Qt,by rw [Yi]; omega,fun c1 H7 s7 vE=>?_⟩;have IE:=((s4.trans s5).trans s6).trans s7;refine ⟨_,Ja,1,Ja,b,_,Ja,(sZ.trans IE).aL hY,fun c2 H8 s8 qD=>?_⟩;have e1:cutV (V.ref c::yr) (some 1) none=yr:=by
    have:=PH (V.ref c::yr) 1;exact this
   rw [e1] at qD;have rl:=hbr.length;have rp:=(Lad.cons e m r).aF;have rp2:r.ps.length+1=(Lad.cons e m r).len:=by rw [<- Lad.bB]; rfl
   refine ⟨c1,c2,_,_,Ja,Ja,s8.aL vE,qD,by rw [Yf,Yi]; omega,fun c3 H9 s9 Kj=>?_⟩;refine q _ _ (((sZ.trans IE).trans s8).trans s9) ?_;rw [Lad.gT];refine BD Kj ?_;have z1:SB [] _ H9:=(s3.trans IE).trans (s8.trans s9);have z2:SB [] _ H9:=(s6.trans s7).trans (s8.trans s9);rw [List.append_assoc];refine Bears.append (bS.sb z1 Lad.af) (.cons ?_ (hbr.sb ((sZ.trans IE).trans (s8.trans s9)) Lad.af));exact Dp.tup (z2.aL (SqT.of Qt)) (.cons (hle.sb (((sZ.trans IE).trans s8).trans s9)) (.cons (.int _) .nil))
theorem zig:FnScope [bp,aI] [bp,aI] (defScope G0):=fS
theorem zif (G:Got P w K mg base cE ["some"] 2 (Pw K)) (F:Fun K CI CI G0 f fd):FnOk P w K mg base CX0 3 f fd [bp,aI] (VI K):=by
 refine F.ok zig (fun vs H Q E h=>?_) (fun _ A _ _ H vs Q E hr h=>?_)
 ·obtain ⟨v,u,l,k,rfl,_⟩:=h
  rfl
 obtain ⟨v,u,l,k,rfl,hv,hu,hd,hd2,hp,eT,q⟩:=h;refine ⟨_,Qe (Qj (aT G hr rfl (Qa (pe_lst (Qa (pv 0) (Qa (pv 1) Qb))) Qb))),?_⟩;have lp:=l.aF;have kp:=k.aF;rw [<- Lad.bB] at lp kp;refine ⟨_,Ja,_,Ja,(dY),fun p hp=>?_⟩;have s1:=Jb hp (.lst [v,u]);refine ⟨p,_,[l,k],Ja,SqL.of Qt,.cons (hv.sb s1) (.cons (hu.sb s1) .nil),fun x hx=>?_,by simp; omega,fun x H' s2 hx=>?_⟩
 ·simp at hx;rcases hx with rfl | rfl <;> assumption
 ·rw [Lad.zi] at hx;exact q _ _ (s1.trans s2) hx
abbrev VM:List Str:=["some",eE,eV,"pair"]
theorem qb:FnScope VM ["some"] (defScope EY):=fS
theorem zim (B:BI mg) (G:Got P w K mg base gW [eE] 1 (Wn K Lad.enc)) (F:Fun K cE cE EY f fd):FnOk P w K mg base CX0 2 f fd ["some"] (Pw K):=by
 refine F.ok qb (fun vs H Q E h=>?_) (fun _ A _ _ H vs Q E hr h=>?_)
 ·obtain ⟨a,xs,ls,rfl,_⟩:=h
  rfl
 obtain ⟨a,xs,ls,rfl,hs,hb,hd,hn,q⟩:=h;have bA:=bt hr;refine ⟨_,Qc (ps_setLc2 (i:=1) (own:=[(eV,2),("pair",3)]) (vs1:=[3]) (wi1:=iTup K (tVar 2)) (g:=gName 2) (g1:=gName 3) (tt:=tYes) (tt1:=tYes) (te:=tVar 3) rfl qb.nd rfl rfl (sw_true rfl rfl rfl (by decide +kernel)) (pi_list (pv 0))
   (blkOk_by (N:=VM) (sc:=defScope EY) (by decide +kernel)) (by simp)
   (fun _ _ _ _ _=>pg_name (i:=2) qb.nd rfl (.inl rfl)) (fun _ _ _ _ _=>pts_nil)
   (fun _ _ _ _ _=>pi_tup (pv 2)) (fun _ _ _ _ _=>pg_name (i:=3) qb.nd rfl (.inl rfl)) (fun _ _ _ _ _=>pts_nil) (fun _ _ _ _ _=>pv 3))
  (Qe (Qj (aT G hr rfl (Qa (pe_callBK (za6 Lad.aB (b:=true) (by show A.units+3+110 < cLine; omega)) rfl B.sorted (by decide +kernel) (Qa (pv 1) Qb) (pk_cons pe_bl pk_nil)) Qb)))),?_⟩
 have xl:=hb.length;refine ⟨_,Ja,a,Ja,⟨xs,hs⟩,fun D hD=>?_⟩;refine DD (walk_list (xs:=xs)) (fun i H2=>SB [D] H H2/\∃ acc,H2 D=some (.lst acc)/\Bears K H Lad.aB acc ((ls.take i).flatMap Lad.ps)) ⟨SB.new hD _,[],Qt,.nil⟩ (fun i H2 hi h2=>(h2.1.drop hD).fO aP hs) (fun i x H2 H' hi h2 y=>?_) (fun H2 h2=>?_)
 ·obtain ⟨s2,acc,aV,Bf⟩:=h2;obtain ⟨rfl,ex⟩:=y;obtain ⟨l,el,hl⟩:=hb.get ex;obtain ⟨c,ys,rfl,oN,B3⟩:=lz hl;have yl:=B3.length;refine ⟨rfl,?_⟩;refine ⟨_,Ja,c,Ja,⟨ys,(s2.drop hD).aL oN⟩,?_⟩;have iL:(ls.take (i+1)).flatMap Lad.ps=(ls.take i).flatMap Lad.ps++l.ps:=by rw [Yg,el]; simp
  have hle:((ls.take (i+1)).flatMap Lad.ps).length<=1900000:=by
   have h1:ls.flatMap Lad.ps=(ls.take (i+1)).flatMap Lad.ps++(ls.drop (i+1)).flatMap Lad.ps:=by rw [<- List.flatMap_append,List.take_append_drop]
   rw [h1,Yf] at hn;omega
  refine DD (walk_tup (xs:=ys)) (fun j H3=>SB [D] H H3/\∃ acc,H3 D=some (.lst acc)/\Bears K H Lad.aB acc ((ls.take i).flatMap Lad.ps++l.ps.take j)) ⟨s2,acc,aV,by simpa using Bf⟩ (fun j H3 hj h3=>(h3.1.drop hD).aL oN) (fun j x H3 H4 hj h3 y=>?_) (fun H3 h3=>?_)
  ·obtain ⟨s3,EG,bH,sC⟩:=h3;obtain ⟨rfl,ex⟩:=y;obtain ⟨p,ep,hp⟩:=B3.get ex;refine ⟨rfl,?_⟩;refine ⟨_,Ja,EG,bH,?_,s3.trans (SB.set bH (by simp) _),_,Qt,?_⟩
   ·rw [sC.length];rw [iL] at hle;refine vW ?_;rw [Yf,Kx] at *;omega
   ·rw [Yg,ep,<- List.append_assoc];exact Bears.append sC (.cons hp .nil)
  ·obtain ⟨s3,EG,bH,sC⟩:=h3;refine ⟨s3,EG,bH,?_⟩;rw [iL];rw [yl,Yh] at sC;exact sC
 ·obtain ⟨s2,acc,aV,Bf⟩:=h2;rw [xl,Yh] at Bf;have i4:=s2.drop hD;refine ⟨_,Ja,Ja,D,_,ls.flatMap Lad.ps,Ja,SqL.of aV,Bf.sb i4 Lad.af,Lad.jR _,Lad.eG _,by omega,fun p hp=>?_,fun p zs hp hz=>?_⟩
  ·have:=Lad.dv p;obtain ⟨l,hl,hp⟩:=List.mem_flatMap.mp hp;have:=hd l hl;have:=l.av p hp;omega
  have s3:=Jb hp (.lst zs);refine ⟨p,zs,Lad.lQ (ls.flatMap Lad.ps),Ja,SqL.of Qt,hz.sb s3 Lad.af,?_,fun b hb=>?_,fun c2 ws H3 s4 qD hZ=>?_⟩
  ·rw [(Lad.bI _).length_eq]; omega
  ·refine Lad.aH ?_;obtain ⟨l,hl,hp⟩:=List.mem_flatMap.mp ((Lad.bI _).mem_iff.mp hb);have:=hd l hl;have:=l.av b hp;omega
  ·exact q _ _ ((i4.trans s3).trans s4) (BD qD hZ)
abbrev Wl:List Str:=[eV,a9,"pair"]
theorem tV:FnScope Wl [eV,a9] (defScope Fh):=fS
theorem zi2 (B:BI mg) (F:Fun K j8 j8 Fh f fd):FnOk P w K mg base CX0 1 f fd [eV,a9] (QC K):=by
 refine F.ok tV (fun vs H Q E h=>?_) (fun _ A _ _ H vs Q E hr h=>?_)
 ·obtain ⟨v,l,m,rfl,_⟩:=h
  rfl
 obtain ⟨v,l,m,rfl,hv,hp,oL,hm0,xI,q⟩:=h;refine ⟨_,Qc (Qr (pt_cmpR op_eq (pv 1) Qg (nomark _)) (Qe (Qj (Ka Qb))) pss_nil)
  (Qe (Qj (pe_callTy call_tuple_of rfl B.tuple boot_tuple (Qa
   (pe_lc (own:=[("pair",2)]) (g:=gName 2) (tt:=tYes) (te:=tTup (tCons (tOp (rIxT K) (tVar 2) (tC (.int 0))) (tCons (tOp (rI CMulW fun i j=>.int (i*j)) (tOp (rIxT K) (tVar 2) (tC (.int 1))) (tVar 1)) tNil))) rfl tV.nd (pi_tup (pv 0))
    (blkOk_by (N:=Wl) (sc:=defScope Fh) (by decide +kernel))
    (fun _ _ _ _ _=>pg_name (i:=2) tV.nd rfl (.inl rfl))
    (fun _ _ _ _ _=>pts_nil)
    (fun _ _ _ _ _=>Ka (Qa (Qm Ql (pv 2) Qg (fun _ _=>rfl)) (Qa (pe_op op_mulW (Qm Ql (pv 2) Qg (fun _ _=>rfl)) (pv 1)) Qb)))) Qb)))),?_⟩
 refine ⟨_,Ja,Ja,_,Ja,?_⟩;refine ite2 (fun c=>?_) (fun c=>?_)
 ·have c':V.int m=V.int 0:=Ks c
  injection c' with c'
  refine ⟨(Z0),fun t ht=>?_⟩;have e:l.dX m=.nil:=if_pos c';exact q _ _ (SB.new ht _) (by rw [e]; exact Bx (SqT.of Qt))
 ·have c':¬ V.int m=V.int 0:=of_decide_eq_false (Bool.eq_false_iff.mpr c);have c2:¬ m=0:=fun z=>c' (by rw [z]);have e:l.dX m=Lad.ofPs (l.ps.map fun p=>(p.1,p.2*m)):=if_neg c2;obtain ⟨a,xs,rfl,iq,gH⟩:=lz hv;have xl:=gH.length;have lp:=l.aF;rw [<- Lad.bB] at lp;refine ⟨_,Ja,a,Ja,⟨xs,iq⟩,fun D hD=>?_⟩;refine lc_it (walk_tup (xs:=xs)) (fun i H2=>SB [D] H H2/\∃ acc,H2 D=some (.lst acc)/\Bears K H2 Lad.aB acc ((l.ps.take i).map fun p=>(p.1,p.2*m))) ⟨SB.new hD _,[],Qt,.nil⟩ (fun i H2 hi h2=>(h2.1.drop hD).aL iq) (fun i x H2 H' hi h2 y=>?_) (fun H2 h2=>?_)
  ·obtain ⟨s2,acc,aV,bS⟩:=h2;obtain ⟨rfl,ex⟩:=y;have i4:=s2.drop hD;obtain ⟨b1,eb,Bc⟩:=gH.get ex;obtain ⟨ad,ux,rfl,dM,xb⟩:=nG Bc;have bz:=oL b1 (Qu eb);have al:=bS.length;rw [Ye,Kx] at al;refine ⟨rfl,?_⟩;refine ⟨_,Ja,ad,_,_,_,Ja,Ja,i4.aL dM,atI_nat (j:=0) rfl,_,Ja,ad,_,_,_,Ja,Ja,i4.aL dM,atI_nat (j:=1) rfl,_,Ja,_,_,Ja,Ja,wide_mul (a:=2000) (b:=2000) (by omega) (by omega) (by decide) (by decide) (by decide),(dY),fun t ht=>?_⟩;have t3:=SB.new (ps:=[D]) ht (.tup [ux,.int (b1.2*m)]);have bH:(upd H' t (.tup [ux,.int (b1.2*m)])) D=some (.lst acc):=by rw [upd_ne (ne_of_none aV ht)]; exact aV
   refine ⟨acc,bH,vW (by omega),?_⟩;have t4:=SB.set (ps:=[D]) bH (by simp) (.lst (acc++[.ref t]));refine ⟨(s2.trans t3).trans t4,_,Qt,?_⟩;rw [Yg,eb,Yj];exact Bears.append ((bS.sb t3 Lad.af).sb t4 Lad.af) (.cons (Dp.tup (t4.aL (SqT.of Qt)) (.cons (((xb.sb i4).sb t3).sb t4) (.cons (.int _) .nil))) .nil)
  ·obtain ⟨s2,acc,aV,bS⟩:=h2;rw [xl,Yh] at bS;refine ⟨D,acc,Ja,.inl ⟨SqL.of aV,fun t ht=>?_⟩⟩;have t3:=Jb ht (.tup acc);refine q _ _ ((s2.drop hD).trans t3) ?_;rw [e];exact BD (SqT.of Qt) (bS.sb t3 Lad.af)
theorem zgv:FnScope [eV] [eV] (defScope HG):=fS
theorem zgi (F:Fun K pC pC HG f fd):FnOk P w K mg base CX0 1 f fd [eV] (PR K):=by
 refine F.ok zgv (fun vs H Q E h=>?_) (fun _ A _ _ H vs Q E hr h=>?_)
 ·obtain ⟨v,l,rfl,_⟩:=h
  rfl
 obtain ⟨v,l,rfl,hv,q⟩:=h;refine ⟨_,Qe (Qj (Ka (Qa (Ka (Qa (pv 0) (Qa Qg Qb))) Qb))),?_⟩;refine ⟨_,Ja,(dY),fun p1 h1=>?_⟩;refine ⟨(lH),fun p2 h2=>?_⟩;have e1:=Jb h1 (.tup [v,.int 1]);have e2:=Jb h2 (.tup [.ref p1]);exact q _ _ (e1.trans e2) (HV (SqT.of Qt) (e2.aL (SqT.of Qt)) ((hv.sb e1).sb e2))
abbrev Vk:List Str:=[bp,aI,"exponent","kept","pair"]
theorem me:FnScope Vk [bp,aI] (defScope E8):=fS
theorem zh6 (B:BI mg) (GL:Got P w K mg base fh [bp,aI] 1 (Ft K)) (GN:Got P w K mg base aN [a9] 1 (WT K)) (GW:Got P w K mg base pC [eV] 1 (PR K)) (GH:Got P w K mg base iZ [bp,aI] 2 (N6 K)) (GB:Got P w K mg base CI [bp,aI] 3 (VI K)) (F:Fun K uU uU E8 f fd):FnOk P w K mg base CX0 4 f fd [bp,aI] (V7 K):=by
 refine F.ok me (fun vs H Q E h=>?_) (fun _ A _ _ H vs Q E hr h=>?_)
 ·obtain ⟨v,u,l,k,rfl,_⟩:=h
  rfl
 obtain ⟨v,u,l,k,rfl,hv,hu,hd,hd2,hp,eT,q⟩:=h;have BP:=hr.mono (j:=1) (by decide);have Ga:=hr.mono (j:=2) (by decide);refine ⟨_,Qc (Qr (Qp (pt_truth (pv 1) (by intro _; rfl))) (Qe (Qj (aT GB hr rfl (Qa (pv 0) (Qa (aT GN BP rfl (Qa Qg Qb)) Qb))))) pss_nil)
  (Qc (ps_set (i:=2) me.nd rfl (.inr rfl) (Qm Ql (Qm Ql (pv 1) Qg (fun _ _=>rfl)) Qg (fun _ _=>rfl)))
  (Qc (ps_set (i:=3) me.nd rfl (.inl rfl) (pe_callTy call_tuple_of rfl B.tuple boot_tuple (Qa
   (pe_lc (own:=[("pair",4)]) (g:=gName 4) (tt:=tB (tCall (Ft K) [] E0 (tCons (tVar 2) (tCons (tOp (rIxT K) (tVar 4) (tC (.int 0))) tNil)))) (te:=tVar 4) rfl me.nd (pi_tup (pv 0))
    (blkOk_by (N:=Vk) (sc:=defScope E8) (by decide +kernel))
    (fun _ _ _ _ _=>pg_name (i:=4) me.nd rfl (.inl rfl))
    (fun _ _ _ _ _=>pts_one (Qo (aT GL BP rfl (Qa (pv 2) (Qa (Qm Ql (pv 4) Qg (fun _ _=>rfl)) Qb)))))
    (fun _ _ _ _ _=>pv 4)) Qb)))
  (Qe (Qj (aT GB hr rfl (Qa (pv 3) (Qa (aT GW BP rfl (Qa (aT GH Ga rfl (Qa (pv 2) (Qa (aT GN BP rfl (Qa Qg Qb)) Qb))) Qb)) Qb))))))),?_⟩
 obtain ⟨b,ys,rfl,hY,gG⟩:=lz hu;refine ⟨_,Ja,_,.inr (.inl ⟨ys,hY,Ja⟩),?_⟩;cases k with
 | nil =>
  cases gG;refine iteT ?_;refine ⟨_,Ja,1,Ja,fun n1 H1 s1 Ac=>?_⟩;rw [Lad.vh] at Ac;exact ⟨v,n1,l,Lad.cT,Ja,hv.sb s1,Ac,by omega,by decide,by omega,by decide,fun x H' s2 hx=>q x H' (s1.trans s2) hx⟩
 | cons e m r =>
  rw [show (Lad.cons e m r).ps=(e,m)::r.ps from rfl] at gG;cases gG with
  | @cons y0 yr _ _ h0 hbr =>
  refine iteF ?_;obtain ⟨c,ue,rfl,oN,hle⟩:=nG h0;refine ⟨_,Ja,b,_,_,_,Ja,Ja,hY,atI_nat (j:=0) rfl,c,_,_,_,Ja,Ja,oN,atI_nat (j:=0) rfl,?_⟩;obtain ⟨a,xs,rfl,iq,gH⟩:=lz hv;have bl:=gH.length;have lp:=l.aF;rw [<- Lad.bB] at lp;have ed:e.deep < (Lad.cons e m r).deep:=Lad.av (.cons e m r) (e,m) (bM ..);have ep:e.parts<=(Lad.cons e m r).parts:=by show e.parts<=1+e.parts+r.parts; omega
  refine ⟨_,Ja,a,Ja,⟨xs,iq⟩,fun D hD=>?_⟩;refine lc_it (walk_tup (xs:=xs)) (fun i H2=>SB [D] H H2/\∃ acc,H2 D=some (.lst acc)/\Bears K H2 Lad.aB acc ((l.ps.take i).filter fun p=>e.lt p.1)) ⟨SB.new hD _,[],Qt,.nil⟩ (fun i H2 hi h2=>(h2.1.drop hD).aL iq) (fun i x H2 H' hi h2 y=>?_) (fun H2 h2=>?_)
  ·obtain ⟨s2,acc,aV,bS⟩:=h2;obtain ⟨rfl,ex⟩:=y;have i4:=s2.drop hD;obtain ⟨b1,eb,Bc⟩:=gH.get ex;obtain ⟨ad,ux,rfl,dM,xb⟩:=nG Bc;refine ⟨rfl,?_⟩;refine ⟨_,Ja,_,Ja,ad,_,_,_,Ja,Ja,i4.aL dM,atI_nat (j:=0) rfl,ue,ux,e,b1.1,Ja,hle.sb i4,xb.sb i4,by omega,_,Ja,?_⟩;have al:=bS.length;have fl:=List.length_filter_le (fun p:Lad × Int=>e.lt p.1) (l.ps.take i);rw [Kx] at fl;cases hc:e.lt b1.1 with
   | true =>
    refine iteT ?_;refine ⟨_,Ja,acc,aV,vW (by omega),?_⟩;have t9:=SB.set (ps:=[D]) aV (by simp) (.lst (acc++[.ref ad]));refine ⟨s2.trans t9,_,Qt,?_⟩;rw [Yg,eb,List.filter_append];refine Bears.append (bS.sb t9 Lad.af) ?_;have:([b1]:List (Lad × Int)).filter (fun p=>e.lt p.1)=[b1]:=by simp [hc]
    show Bears K _ Lad.aB _ (([b1]:List (Lad × Int)).filter (fun p=>e.lt p.1));rw [this];exact .cons (cI t9 _ _ (Lad.af _) (cI i4 _ _ (Lad.af _) Bc)) .nil
   | false =>
    refine iteF ?_;refine ⟨s2,acc,aV,?_⟩;rw [Yg,eb,List.filter_append];simpa [hc] using bS
  ·obtain ⟨s2,acc,aV,bS⟩:=h2;rw [bl,Yh] at bS;have i4:=s2.drop hD;refine ⟨D,acc,Ja,.inl ⟨SqL.of aV,fun kt Ad=>?_⟩⟩;have s3:=Jb Ad (.tup acc);have sZ:=i4.trans s3;have kept:LA K (upd H2 kt (.tup acc)) (.ref kt) (Lad.ofPs (l.ps.filter fun p=>e.lt p.1)):=BD (SqT.of Qt) (bS.sb s3 Lad.af);refine ⟨_,Ja,_,Ja,1,Ja,fun n1 H4 s4 Ac=>?_⟩;rw [Lad.vh] at Ac;refine ⟨ue,n1,e,Lad.cT,Ja,(hle.sb sZ).sb s4,Ac,by omega,by decide,by omega,by decide,fun x1 H5 s5 lO=>?_⟩;refine ⟨x1,_,Ja,lO,fun x2 H6 s6 lu=>?_⟩;have b1:=Lad.gS e Lad.cT;have b2:=Lad.iP (n:=29) (l:=e) (k:=Lad.cT) (by omega) (by decide);have b3:=Lad.gZ l fun p=>e.lt p.1;have b4:Lad.cT.parts=1:=rfl;refine ⟨.ref kt,x2,_,_,Ja,((kept.sb s4).sb s5).sb s6,lu,Yb (Lad.iO _ hd) (by decide),by show max (1+(Lad.gU e Lad.cT).deep) 0<=30; omega,by omega,by show 1+(Lad.gU e Lad.cT).parts+0<=800000; omega,fun x H' s7 hx=>?_⟩;exact q x H' (((sZ.trans s4).trans s5).trans (s6.trans s7)) hx
theorem zh0:FnScope [bp,aI] [bp,aI] (defScope GO):=fS
theorem zh2 (GW:Got P w K mg base pC [eV] 1 (PR K)) (GH:Got P w K mg base iZ [bp,aI] 2 (N6 K)) (F:Fun K nI nI GO f fd):FnOk P w K mg base CX0 3 f fd [bp,aI] (WH K):=by
 refine F.ok zh0 (fun vs H Q E h=>?_) (fun _ A _ _ H vs Q E hr h=>?_)
 ·obtain ⟨v,u,e,m,r,k,rfl,_⟩:=h
  rfl
 obtain ⟨v,u,e,m,r,k,rfl,hv,hu,hd,hd2,hp,eT,q⟩:=h;have BP:=hr.mono (j:=1) (by decide);refine ⟨_,Qc (Qr (Qp (pt_truth (pv 1) (by intro _; rfl))) (Qe (Qj (pv 0))) pss_nil)
  (Qe (Qj (aT GW BP rfl (Qa (aT GH hr rfl (Qa (Qm Ql (Qm Ql (pv 0) Qg (fun _ _=>rfl)) Qg (fun _ _=>rfl)) (Qa (pv 1) Qb))) Qb)))),?_⟩
 obtain ⟨b,ys,rfl,hY,gG⟩:=lz hu;refine ⟨_,Ja,_,.inr (.inl ⟨ys,hY,Ja⟩),?_⟩;cases k with
 | nil =>
  cases gG;refine iteT ?_;exact ⟨_,Ja,q v H SB.refl hv⟩
 | cons e2 m2 r2 =>
  rw [show (Lad.cons e2 m2 r2).ps=(e2,m2)::r2.ps from rfl] at gG;cases gG with
  | @cons y0 yr _ _ h0 hbr =>
  refine iteF ?_;obtain ⟨a,xs,rfl,iq,gH⟩:=lz hv;rw [show (Lad.cons e m r).ps=(e,m)::r.ps from rfl] at gH;cases gH with
  | @cons x0 xr _ _ g0 gbr =>
  obtain ⟨c,ue,rfl,oN,hle⟩:=nG g0;have ed:e.deep < (Lad.cons e m r).deep:=Lad.av (.cons e m r) (e,m) (bM ..);have ep:e.parts<=(Lad.cons e m r).parts:=by show e.parts<=1+e.parts+r.parts; omega
  refine ⟨_,Ja,a,_,_,_,Ja,Ja,iq,atI_nat (j:=0) rfl,c,_,_,_,Ja,Ja,oN,atI_nat (j:=0) rfl,_,Ja,ue,_,e,_,Ja,hle,hu,by omega,by omega,by omega,by omega,fun x1 H1 s1 lO=>?_⟩;exact ⟨x1,_,Ja,lO,fun x H' s2 hx=>q x H' (s1.trans s2) hx⟩
abbrev UZ:List Str:=[aq,"found",aO,aZ]
theorem l9:FnScope UZ [aq] (defScope Fb):=fS
theorem zi4 {ae aw:Addr} (B:BI mg) (zK:Got P w K mg base cC [aq] (24) (QD K ae aw)) (zG:GotX P w K mg base bw [aq,aO] (5) (P5 K ae aw)) (M9:Got P w K mg base uT [aq,bO,aZ] (46) (P0 K ae)) (F:Fun K gu gu Fb f fd):FnOk P w K mg base CX0 (47) f fd [aq] (Xu K ae aw):=by
 refine F.ok l9 (fun vs H Q E h=>?_) (fun _ A _ _ H vs Q E hr h=>?_)
 ·obtain ⟨v,b,ρ,rfl,_⟩:=h
  rfl
 obtain ⟨v,b,ρ,rfl,hv,ok,ow,q⟩:=h;have bA:=bt hr;refine ⟨_,Qc (ps_set (i:=1) l9.nd rfl (.inr rfl) pe_dnewK)
  (Qc (ps_for PassesOwn.never rfl (pi_list (aT zK (Hm hr) rfl (Qa (pv 0) Qb))) (pg_name (i:=2) l9.nd rfl (.inl rfl))
   (Qe (ps_dput (u1 hr) (pv 1) (pv 2) (Qs (zfc rfl (by show A.units+3+110 < cLine; omega)) rfl B.max boot_max (Qa (pe_lc (own:=[(aZ,3)]) (g:=(gName 3)) (tt:=tYes) (te:=(tCall (P0 K ae) [] E0 (tCons (tVar 0) (tCons (tVar 1) (tCons (tVar 3) tNil))))) rfl l9.nd (pi_list (NW zG (Hm hr) rfl (Qa (pv 0) (Qa (pv 2) Qb)))) (blkOk_by (N:=UZ) (sc:=defScope Fb) (by decide +kernel)) (fun _ _ _ _ _=>(pg_name (i:=3) l9.nd rfl (.inl rfl))) (fun _ _ _ _ _=>pts_nil) (fun _ _ _ _ _=>(aT M9 (Hm hr) rfl (Qa (pv 0) (Qa (pv 1) (Qa (pv 3) Qb)))))) Qb)) rfl)))
  (Qe (Qj (pv 1)))),?_⟩
 have jy:=sizeLine_eq;have b8:=ok.len;intro D nD;have t1:=Jb nD (.dK []);have oi:=eZ t1;generalize upd H D _=H1 at t1 oi;refine ⟨_,Ja,v,b,Ja,hv.ef t1,ok,fun l es H2 s2 nl hl eo=>?_⟩;have e8:=eo.len;refine ⟨l,Ja,⟨_,SqL.of hl⟩,?_⟩;have Dl:D ≠ l:=fun z=>by rw [<- z,oi] at nl; cases nl
 refine for_it (walk_list (xs:=es.map V.str)) (fun i σ H3=>SB [D] H2 H3/\(∃ o2:Option V,σ=[some v,some (.ref D),o2,none])/\qQ K H3 D ρ (es.take i)) ⟨SB.refl,⟨none,Ja⟩,[],s2.keep _ _ oi aP,.nil⟩ (fun i σ H3 hi h3=>h3.1.fO (by simpa using fun z=>Dl z.symm) (SqL.of hl)) (fun i x σ Hq H3 hi h3 y=>?_) (fun σ H3 h3=>?_)
 ·obtain ⟨s3,⟨o2,rfl⟩,hR⟩:=h3;obtain ⟨rfl,ey⟩:=y;rw [List.getElem?_map] at ey;obtain ⟨n,en,rfl⟩:=Kr ey;have hO:SB [] H H3:=((t1.trans s2).nil.trans s3).drop nD;have hn:=(eo.mem n).mp (Qu en);obtain ⟨kd,eg⟩:=Bk.dw hn.1;obtain ⟨km,rfl⟩:=Bk.get_some eg;obtain ⟨kn,r4,rr⟩:=ok.kd kd km;refine ⟨_,Ja,_,Ja,v,b,kd.n,Ja,hv.ef hO,by omega,fun k hk=>Yb (ok.kd k hk).2.1 (by decide),fun k' e' ll us H4 s4 FZ xa qZ=>?_,fun z=>by rw [eg] at z; cases z⟩;rw [eg] at e';cases e';have ul:=qZ.length;have B6:=hR.ef s4;have tc:=hO.trans s4;refine ⟨ll,Ja,⟨_,SqL.of xa⟩,fun D2 F0=>?_⟩;refine oo (walk_list (xs:=us)) F0 (by rw [ul,Yk]; omega) (fun j ws H5=>Bears K H5 Lad.enc ws (((lN::kd.rs).take j).map (gI b ρ))) .nil (fun H5 s5=>s5.fO aP (SqL.of xa)) (fun j ws H5 H6 s6 h=>h.sb s6 Lad.aj) (fun Pv j x Hq H5 ws hj s5 y vF hu5 fin skip=>?_) (fun ws H5 s5 eQ vF hu5=>?_)
  ·obtain ⟨rfl,ey⟩:=y;obtain ⟨r,er,Jz⟩:=qZ.get ey;have rm:=Qu er;have rf:Bs b ρ (es.take i) r:=by
    rcases Qv rm with rfl | rm
    ·exact zfl b ρ _
    ·exact ow.fit kd km hn.2 _ (fun n h=>eo.ord i _ en n h) r rm
   have rp:r.1.parts+r.2.parts<=4:=by
    rcases Qv rm with rfl | rm
    ·decide
    ·exact (rr r rm).1.2.2
   have rd1:=pJ r.1;have rd2:=pJ r.2;refine ⟨rfl,_,Ja,_,Ja,_,Ja,v,x,D,b,ρ,es.take i,r,Ja,(hv.ef tc).ef s5,by omega,B6.ef s5,cI s5 _ _ (Ru.aj _) Jz,by omega,by omega,by omega,by omega,rf,fun z H6 s6 hz=>fin z H6 s6 ?_⟩;rw [Yg,er,Yj];exact (vF.sb s6 Lad.aj).append (.cons hz .nil)
  ·rw [ul,Yh,Ky,show gI b ρ lN=Lad.cT from Px b ρ] at vF;have O2:=B6.ef s5;refine ⟨D2,ws,Lad.cT,kd.rs.map (gI b ρ),Ja,SqL.of eQ,vF,fun l D7=>?_,fun x hx=>?_⟩
   ·rcases Qv D7 with rfl | D7
    ·decide
    ·obtain ⟨r,rm,rfl⟩:=Qx D7;exact ow.deep kd km hn.2 r rm
   rw [<- ow.own kd km hn.2] at hx;have fresh:kd.n ∉ es.take i:=fun z=>by
    obtain ⟨j,hj,ej⟩:=List.getElem_of_mem z;rw [List.getElem_take] at ej;rw [Kx] at hj;have e2:=List.getElem_of_getElem? en;obtain ⟨SE,e2⟩:=e2;exact List.pairwise_iff_getElem.mp eo.nd j i (by omega) SE (by omega) (ej.trans e2.symm)
   obtain ⟨H6,DQ,s6,hR7⟩:=O2.put fresh (by rw [Kx]; omega) hx;refine ⟨_,Ja,_,Ja,D,H6,Ja,DQ,?_,⟨_,Ja⟩,?_⟩
   ·exact (s3.trans (s4.trans s5).nil).trans s6
   ·rw [Yg,en];exact hR7
 ·obtain ⟨s3,⟨o2,rfl⟩,hR⟩:=h3;rw [Ye,Yh] at hR;exact ⟨_,Ja,q D es _ (((t1.trans s2).nil.trans s3).drop nD) nD hR eo⟩
abbrev zle:List Str:=[aq,bO,aZ,"once","each"]
theorem tZ:FnScope zle [aq,bO,aZ] (defScope Hz):=fS
theorem zid {ae:Addr} (B:BI mg) (Nj:Got P w K mg base uU [bp,aI] (4) (V7 K)) (nq:Got P w K mg base cU [aq,bO,ah] (45) (CT K ae 20)) (F:Fun K uT uT Hz f fd):FnOk P w K mg base CX0 (46) f fd [aq,bO,aZ] (P0 K ae):=by
 refine F.ok tZ (fun vs H Q E h=>?_) (fun _ A _ s H vs Q E hr h=>?_)
 ·obtain ⟨v,u,d,b,ρ,ns,r,rfl,_⟩:=h
  rfl
 obtain ⟨v,u,d,b,ρ,ns,r,rfl,hv,hl,hw,hu,d1,d2,p1,p2,uF,q⟩:=h;refine ⟨_,Qc (ps_asg (pv 2) (pg_tup rfl (Qi (pg_name (i:=3) tZ.nd rfl (.inl rfl)) (Qi (pg_name (i:=4) tZ.nd rfl (.inl rfl)) pgs_nil))))
  (Qe (Qj (aT Nj (Hm hr) rfl (Qa (aT nq (Hm hr) rfl (Qa (pv 0) (Qa (pv 1) (Qa (pv 3) Qb)))) (Qa (aT nq (Hm hr) rfl (Qa (pv 0) (Qa (pv 1) (Qa (pv 4) Qb)))) Qb))))),?_⟩
 cases hu with
 | @tup ad tK _ vo hda =>
 cases hda with
 | cons g1 hda =>
 cases hda with
 | cons g2 hda =>
 cases hda;obtain ⟨h1,h2,h3,h4,h5,h6⟩:=uF;refine ⟨_,Ja,ad,_,Ja,vo,Ja,_,_,Ja,_,_,Ja,Ja,?_⟩;refine ⟨_,Ja,_,Ja,_,Ja,v,_,d,b,ρ,ns,r.1,Ja,hv,hl,hw,g1,d1,h1.w,p1,fun x1 H1 s1 lO=>?_⟩;refine ⟨_,Ja,_,Ja,_,Ja,v,_,d,b,ρ,ns,r.2,Ja,hv.ef s1,hl,hw.ef s1,GA.sb g2 s1,d2,h2.w,p2,fun x2 H2 s2 lu=>?_⟩;exact ⟨x1,x2,_,_,Ja,lO.sb s2,lu,Yb h3 (by decide),Yb h4 (by decide),Yb h5 (by decide),Yb h6 (by decide),fun x H' s hx=>q x H' ((s1.trans s2).trans s) hx⟩
abbrev U2:List Str:=[aq,bO,ah,bN,a9]
theorem pW:FnScope U2 [aq,bO,ah] (defScope E6):=fS
theorem zgq {ae:Addr} (B:BI mg) (Nh:Got P w K mg base cE ["some"] (2) (Pw K)) (MQ:Got P w K mg base j8 [eV,a9] (1) (QC K)) (ML:Got P w K mg base b7 [aq,bO,bN] (2*n+6) (N7 K ae n)) (F:Fun K cU cU E6 f fd):FnOk P w K mg base CX0 (2*n+7) f fd [aq,bO,ah] (CT K ae (n+1)):=by
 refine F.ok pW (fun vs H Q E h=>?_) (fun _ A _ s H vs Q E hr h=>?_)
 ·obtain ⟨v,u,d,b,ρ,ns,g,rfl,_⟩:=h
  rfl
 obtain ⟨v,u,d,b,ρ,ns,g,rfl,hv,hl,hw,hg,Y9,uF,hp,q⟩:=h;have bA:=bt hr;refine ⟨_,Qe (Qj (aT Nh (Hm hr) rfl (Qa (pe_lc (own:=[(bN,3),(a9,4)]) (g:=(gTup K 2 (gCons (gName 3) (gCons (gName 4) gNil)))) (tt:=tYes) (te:=(tCall (QC K) [] E0 (tCons (tCall (N7 K ae n) [] E0 (tCons (tVar 0) (tCons (tVar 1) (tCons (tVar 3) tNil)))) (tCons (tVar 4) tNil)))) rfl pW.nd (pi_tup (pv 2)) (blkOk_by (N:=U2) (sc:=defScope E6) (by decide +kernel)) (fun _ _ _ _ _=>(pg_tup rfl (Qi (pg_name (i:=3) pW.nd rfl (.inl rfl)) (Qi (pg_name (i:=4) pW.nd rfl (.inl rfl)) pgs_nil)))) (fun _ _ _ _ _=>pts_nil) (fun _ _ _ _ _=>(aT MQ (Hm hr) rfl (Qa (aT ML (Hm hr) rfl (Qa (pv 0) (Qa (pv 1) (Qa (pv 3) Qb)))) (Qa (pv 4) Qb))))) Qb))),?_⟩;obtain ⟨a,xs,rfl,hs,hb⟩:=nH hg;have xl:=hb.length;have lp:=g.aF;have jy:=sizeLine_eq;refine ⟨_,Ja,a,Ja,⟨xs,hs⟩,fun D hD=>?_⟩;refine oo (walk_tup (xs:=xs)) hD (by omega) (fun i us H2=>Bears K H2 Lad.enc us ((g.ps.take i).map fun p:Tr × Int=>Lad.dX (Gr.hQ b ρ p.1) p.2)) .nil (fun H2 s2=>s2.aL hs) (fun i us H2 H3 s3 h=>h.sb s3 Lad.aj) (fun Pv i x Hq H2 us hi s2 y hR hu fin skip=>?_) (fun us H2 s2 aV hR hu=>?_)
 ·obtain ⟨rfl,ey⟩:=y;obtain ⟨p,ep,fz⟩:=hb.get ey;have pm:=Qu ep;obtain ⟨ad,td,ux,rfl,dM,n5,i3,OO⟩:=nP fz;obtain ⟨⟨f1,f2,f3,f4,f5,f6,f7,f8⟩,f9⟩:=uF.at p pm;have pd:=g.av p pm;have pp:=g.bu p pm;refine ⟨ad,_,Ja,s2.aL dM,Ja,_,_,Ja,_,_,Ja,Ja,Ja,?_⟩;refine ⟨_,Ja,_,Ja,_,Ja,v,.ref td,d,b,ρ,ns,p.1.1,p.1.2,Ja,hv.ef s2,hl,hw.ef s2,cI s2 _ _ (Gr.ax _) OO,by omega,⟨f1,f2,f3,f4,f5⟩,f9,by omega,fun x H3 s3 hx=>?_⟩;refine ⟨_,Ja,x,_,p.2,Ja,hx,Yb f6.parts (by decide),f6.num,f7,f8,fun y H4 s4 hy=>fin y H4 (s3.trans s4) ?_⟩;rw [Yg,ep,Yj];exact (hR.sb (s3.trans s4) Lad.aj).append (.cons hy .nil)
 ·rw [xl,Yh,<- Gr.mu] at hR;refine ⟨D,us,Gr.rkT b ρ g,Ja,SqL.of aV,hR,fun l hm=>?_,Yb uF.len (by decide),fun x H' s hx=>q x H' (s2.trans s) hx⟩;rw [Gr.mu] at hm;obtain ⟨p,pm,rfl⟩:=Qx hm;exact Yb (Lad.gK _ (uF.at p pm).1.2.2.2.2.2.1.deep) (by decide)
abbrev zkr:List Str:=[aq,bO,bN,"kind","held"]
theorem tS:FnScope zkr [aq,bO,bN] (defScope Hk):=fS
theorem zh7 {ae:Addr} (B:BI mg) (MS:Got P w K mg base uR [aq,"kind","own",NH] (5) (WI K ae)) (nq:Got P w K mg base cU [aq,bO,ah] (2*n+5) (CT K ae n)) (F:Fun K b7 b7 Hk f fd):FnOk P w K mg base CX0 (2*n+6) f fd [aq,bO,bN] (N7 K ae n):=by
 refine F.ok tS (fun vs H Q E h=>?_) (fun _ A _ _ H vs Q E hr h=>?_)
 ·obtain ⟨v,t,d,b,ρ,ns,k,g,rfl,_⟩:=h
  rfl
 obtain ⟨v,t,d,b,ρ,ns,k,g,rfl,hv,hl,hw,ht,Y9,⟨kn,kb,DG,fk,fg⟩,uF,hp,q⟩:=h;refine ⟨_,Qc (ps_asg (pv 2) (pg_tup rfl (Qi (pg_name (i:=3) tS.nd rfl (.inl rfl)) (Qi (pg_name (i:=4) tS.nd rfl (.inl rfl)) pgs_nil))))
  (Qe (Qj (aT MS (Hm hr) rfl (Qa (pv 0) (Qa (pv 3) (Qa (pe_dget (u1 hr) (pv 1) (pv 3) (fun _ _=>rfl)) (Qa (aT nq (Hm hr) rfl (Qa (pv 0) (Qa (pv 1) (Qa (pv 4) Qb)))) Qb))))))),?_⟩
 obtain ⟨a,u,rfl,hs,i3⟩:=Wi ht;obtain ⟨ux,hux,zZ⟩:=hw.val kn;refine ⟨_,Ja,a,_,Ja,hs,Ja,_,_,Ja,_,_,Ja,Ja,?_⟩;refine ⟨_,Ja,_,Ja,_,Ja,_,Ja,d,ux,Ja,hux,?_⟩;refine ⟨_,Ja,_,Ja,_,Ja,v,u,d,b,ρ,ns,g,Ja,hv,hl,hw,i3,Y9,uF,hp,fun x H1 s1 hx=>?_⟩;exact ⟨v,ux,x,b,k,ρ k,Gr.rk b ρ g,Ja,hv.ef s1,hl,kb,⟨zZ.sb s1,DG,fk⟩,⟨hx,fg⟩,fun y H2 s2 hy=>q y H2 (s1.trans s2) hy⟩
abbrev zl9:List Str:=[aq,"kind","own",NH]
theorem zfx:FnScope zl9 [aq,"kind","own",NH] (defScope HM):=fS
theorem zga {ae aw:Addr} (B:BI mg) (ES:z2n P w K mg base ae "spreads" [a8,aO] (4) (Oo K ae aw)) (MJ:Got P w K mg base nI [bp,aI] (3) (WH K)) (Nf:Got P w K mg base iZ [bp,aI] (2) (N6 K)) (F:Fun K uR uR HM f fd):FnOk P w K mg base CX0 (5) f fd [aq,"kind","own",NH] (WI K ae):=by
 refine F.ok zfx (fun vs H Q E h=>?_) (fun _ A _ _ H vs Q E hr h=>?_)
 ·obtain ⟨v,u,t,b,n,o,l,rfl,_⟩:=h
  rfl
 obtain ⟨v,u,t,b,n,o,l,rfl,hv,hl,hn,⟨hu,n6,fo⟩,⟨ht,fl⟩,q⟩:=h;refine ⟨_,Qc (Qr (Qo (WR ES (Hm hr) (pv 0) (Qa (pv 1) Qb))) (Qe (Qj (aT MJ (Hm hr) rfl (Qa (pv 2) (Qa (pv 3) Qb))))) pss_nil)
  (Qe (Qj (aT Nf (Hm hr) rfl (Qa (pv 2) (Qa (pv 3) Qb))))),?_⟩
 obtain ⟨va,xW,Iz,Iy,rfl,yJ⟩:=hv.at;obtain ⟨kd,eg⟩:=Bk.dw hn;refine ⟨_,Ja,va,xW,_,Ja,yJ,Ja,_,Ja,?_⟩;refine ⟨_,b,n,Ja,hv,hl,fun k' e' H1 s1=>?_,fun z=>by rw [eg] at z; cases z⟩;rw [eg] at e';cases e';refine ⟨_,Ja,?_⟩;have Js:b.wide n=kd.w:=Bk.rC eg;cases hk:kd.w with
 | true =>
  refine iteT ⟨_,Ja,_,Ja,?_⟩;cases o with
  | nil=>exact absurd rfl n6
  | cons e m r =>
  refine ⟨u,t,e,m,r,l,Ja,hu.sb s1,ht.sb s1,Yb fo.deep (by decide),Yb fl.deep (by decide),Yb fo.parts (by decide),Yb fl.parts (by decide),fun x H' s2 hx=>q x H' (s1.trans s2) ?_⟩;rw [Js,hk];exact hx
 | false =>
  refine iteF ⟨_,Ja,_,Ja,?_⟩;refine ⟨u,t,o,l,Ja,hu.sb s1,ht.sb s1,Yb fo.deep (by decide),Yb fl.deep (by decide),Yb fo.parts (by decide),Yb fl.parts (by decide),fun x H' s2 hx=>q x H' (s1.trans s2) ?_⟩;rw [Js,hk];exact hx
abbrev zl0:List Str:=[bp,aI,Ag,"exponent","lesser"]
theorem tY:FnScope zl0 [bp,aI] (defScope HJ):=fS
theorem zbi {fL:Addr} {ps:List Str}:FnOk P w K mg base (L2.CX P w) k f fd ps (FF K fL 0):=zdm fun vs H Q E ⟨v,u,l,k,_,_,_,h,_⟩=>by omega
theorem zgn {fL:Addr} (B:BI mg) (fI:Own K mg "NoDrop" fL) (MX:Got P w K mg base fh [bp,aI] (1) (Ft K)) (Ni:Got P w K mg base d5 [bp,aI] (1) (VS K)) (zL:GotX P w K mg base pF [bp,aI] (n+20) (FF K fL n)) (F:Fun K pF pF HJ f fd):FnOk P w K mg base (L2.CX P w) (n+21) f fd [bp,aI] (FF K fL (n+1)):=by
 refine F.okX tY (fun vs H Q E h=>?_) (fun _ A _ _ H vs Q E hr h=>?_)
 ·obtain ⟨v,u,l,k,rfl,_⟩:=h
  rfl
 obtain ⟨v,u,l,k,rfl,hv,hu,Zb,hd,hd2,hp,eT,q,qE⟩:=h;have bA:=bt hr;refine ⟨_,Qc (Qr (Qp (Qo (aT MX (Hm hr) rfl (Qa (pv 1) (Qa (pv 0) Qb))))) (Qe (ps_raise rfl (takes_of rfl rfl rfl rfl) (pmk_own PySem.F.excBase_ValueError fI.q fI.gC fI.k (raises_own fI.s fI.t) rfl))) pss_nil)
  (Qc (ps_set (i:=2) tY.nd rfl (.inl rfl) (aT Ni (Hm hr) rfl (Qa (pv 0) (Qa (pv 1) Qb))))
  (Qc (Qr (pt_cmpR op_eq (pv 2) (Qs call_len_seq rfl B.len PySem.boot_len (Qa (pv 1) Qb)) (nomark _)) (Qe (Qj (Ka (Qa pe_str (Qa (pv 2) Qb))))) pss_nil)
  (Qc (ps_par (i:=3) (j:=4) rfl tY.nd rfl rfl (by decide) rfl rfl (Qa (Qm Ql (Qm Ql (pv 0) (pv 2) (fun _ _=>rfl)) Qg (fun _ _=>rfl)) (Qa (Qm Ql (Qm Ql (pv 1) (pv 2) (fun _ _=>rfl)) Qg (fun _ _=>rfl)) Qb)) rfl)
  (Qc (Qr (pt_cmpR (op_eqD (ig hr)) (pv 3) (pv 4) (nomark _)) (Qe (Qj (Ka (Qa pe_str (Qa (pv 2) Qb))))) pss_nil)
  (Qe (Qj (Ka (Qa pe_str (Qa (pv 2) (Qa (tH zL (Hm hr) rfl (takes_of rfl rfl rfl rfl) (Qa (pv 3) (Qa (pv 4) Qb))) Qb)))))))))),?_⟩
 obtain ⟨a,xs,rfl,iq,gH⟩:=lz hv;obtain ⟨b,ys,rfl,hY,gG⟩:=lz hu;have xl:=gH.length;have yl:=gG.length;refine ⟨_,Ja,_,Ja,.ref b,.ref a,k,l,Ja,hu,hv,by omega,?_⟩;cases dZ:k.lt l with
 | false=>exact ⟨_,Ja,iteT (qE dZ H SB.refl)⟩
 | true =>
 refine ⟨_,Ja,iteF ?_⟩;refine ⟨_,Ja,_,Ja,.ref a,.ref b,l,k,Ja,hv,hu,by omega,by omega,by omega,by omega,?_⟩;refine cJ ?_;obtain ⟨h1,h2,_,h4,_,h6⟩:=Lad.sQ l k;have oP:=Lad.vL l k;rw [dZ] at h4;generalize l.alh k=j at h1 h2 h4 h6 oP;have Jj:=l.aF;have OL:=k.aF;rw [<- Lad.bB] at Jj OL;have num:∀ (G:Hp),Dp K G (.int (j:Int)) (.int ((0+j:Nat):Int)):=fun G=>by rw [Nat.zero_add]; exact .int _
 refine ⟨_,Ja,_,Ja,b,ys,Ja,.inr hY,Ja,_,Ja,?_⟩;by_cases hj:j=k.ps.length
 ·rw [show decide (V.int (j:Int)=V.int (ys.length:Nat))=true from Ya (by rw [yl,hj])];rw [List.drop_eq_nil_of_le (as:=k.ps) (by omega),show Lad.ofPs ([]:List (Lad × Int))=.nil from rfl,Lad.kT] at oP;refine iteT ⟨_,Ja,dY,fun T nT=>?_⟩;refine q dZ (.ref T) _ (SB.new nT _) ?_;rw [oP];exact Dp.tup (SqT.of Qt) (.cons (.str _) (.cons (num _) .nil))
 rw [show decide (V.int (j:Int)=V.int (ys.length:Nat))=false from Qz (fun z=>hj (by injection z with z; omega))];refine iteF ?_;have hkl:j < l.ps.length:=by
  refine Classical.byContradiction fun z=>?_;rw [List.drop_eq_nil_of_le (as:=l.ps) (by omega)] at h4;have e:=Lad.eJ (Lad.ofPs (k.ps.drop j));rw [show Lad.ofPs ([]:List (Lad × Int))=.nil from rfl,e] at h4;cases h4
 have wU:xs[j]?=some xs[j]:=Kp (by omega);have wR:ys[j]?=some ys[j]:=Kp (by omega);obtain ⟨p1,sJ,gq⟩:=gH.get wU;obtain ⟨p2,pf,wX⟩:=gG.get wR;have d1:=l.av p1 (Qu sJ);have d2:=k.av p2 (Qu pf);have q1:=l.bu p1 (Qu sJ);have q2:=k.bu p2 (Qu pf);obtain ⟨a1,u1,Ud,jZ,i7⟩:=nG gq;obtain ⟨a2,u2,Uc,dM,jC⟩:=nG wX;rw [Lad.sM sJ pf] at oP;rw [Lad.qi pf sJ] at h4;have h6':=h6 p1 p2 sJ pf;rw [Ud] at wU;rw [Uc] at wR;refine ⟨_,Ja,_,Ja,a,xs,_,_,Ja,Ja,iq,atI_nat wU,a1,_,_,_,Ja,Ja,jZ,atI_nat (j:=0) rfl,_,Ja,_,Ja,b,ys,_,_,Ja,Ja,hY,atI_nat wR,a2,_,_,_,Ja,Ja,dM,atI_nat (j:=0) rfl,_,_,Ja,?_⟩;refine ⟨_,Ja,_,Ja,p1.1.enc,p2.1.enc,i7,jC,Lad.aH (by omega),Lad.aH (by omega),_,Ja,?_⟩;rw [Lad.bc];by_cases he:p1.1=p2.1
 ·have hm:p1.2 ≠ p2.2:=fun z=>h6' ⟨he,z⟩;rw [if_pos he,if_neg hm] at oP;rw [Ya he];refine iteT ⟨_,Ja,dY,fun T nT=>?_⟩;refine q dZ (.ref T) _ (SB.new nT _) ?_;rw [oP];exact Dp.tup (SqT.of Qt) (.cons (.str _) (.cons (num _) .nil))
 ·rw [if_neg he] at oP;rw [if_neg (fun z=>he z.symm)] at h4;rw [Qz he];refine iteF ?_;refine ⟨_,Ja,_,Ja,_,Ja,u1,u2,p1.1,p2.1,Ja,i7,jC,by omega,by omega,by omega,by omega,by omega,fun _ x H3 s3 hx=>?_,fun z=>by rw [<- h4] at z; cases z⟩;refine ⟨Gn,fun T nT=>?_⟩;have t4:=Jb nT (.tup [.str "exponent",.int (j:Int),x]);refine q dZ (.ref T) _ (s3.trans t4) ?_;rw [oP];exact Dp.tup (SqT.of Qt) (.cons (.str _) (.cons (num _) (.cons (cI t4 _ _ (Dro.noList _) hx) .nil)))
abbrev zkq:List Str:=[bJ]
theorem zgx:FnScope zkq [bJ] (defScope GC):=fS
theorem zgt (B:BI mg) (F:Fun K iA iA GC f fd):FnOk P w K mg base CX0 (1) f fd [bJ] (Vh K):=by
 refine F.ok zgx (fun vs H Q E h=>?_) (fun _ A _ _ H vs Q E hr h=>?_)
 ·obtain ⟨a,ns,rfl,_⟩:=h
  rfl
 obtain ⟨a,ns,rfl,hs,nl,q⟩:=h;have bA:=bt hr;refine ⟨_,Qe (Qj (pe_disp (pps_cons pe_str (pe_callTy call_list_of rfl B.list boot_list (Qa (pv 0) Qb)) (pps_cons pe_str Qg (pps_cons pe_str Qg (pps_cons pe_str (pe_op Ko Qg (Qs call_len_seq rfl B.len PySem.boot_len (Qa (pv 0) Qb))) pps_nil)))) (by rfl) (by rfl) (fun z=>by cases z) (by decide))),?_⟩;refine fun p np=>?_;have t0:=Jb np (.dK []);have uC:=eZ t0;generalize upd H p _=H0 at t0 uC;refine ⟨_,Ja,a,_,Ja,.inl (t0.fO aP hs),fun c nc=>?_⟩;have t1:=Jb nc (.lst (ns.map V.int));have vE:=eZ t1;have gq:=t1.keep _ _ uC aP;have cp:c ≠ p:=fun z=>by rw [z,uC] at nc; cases nc
 have Q4:=t0.trans t1;generalize upd H0 c _=H1 at t1 vE gq Q4;refine ⟨_,Ja,a,_,Ja,.inl (Q4.fO aP hs),_,_,Ja,Ja,?_⟩;rw [Ye];refine ⟨gq,[(Sum.inr "cells",.ref c),(Sum.inr Ag,.int 0),(Sum.inr "left",.int 0),(Sum.inr "seed",.int (20011+(ns.length:Nat)))],rfl,by show 4<=15; decide,?_⟩;have t2:=SB.kE (ps:=[p]) gq (by simp) (.dK (gM c 0 0 (20011+(ns.length:Nat))));refine q p _ ((Q4.nil.trans t2).drop np) np ⟨c,ns,0,0,20011+(ns.length:Nat),Qt,t2.keep _ _ vE (by simpa using cp),nl,by omega,by omega,⟨by omega,by decide⟩,by omega,?_⟩;have:(2:Int) ^ 31=2147483648:=by decide
 omega
abbrev zm8:List Str:=[ai,aM,"_law_cell","_law_digit","_law_seed"]
theorem qc:FnScope zm8 [ai,aM] (defScope GU):=fS
theorem zic (B:BI mg) (F:Fun K bU bU GU f fd):FnOk P w K mg base CX0 (1) f fd [ai,aM] (Ai):=by
 refine F.ok qc (fun vs H Q E h=>?_) (fun _ A _ s H vs Q E hr h=>?_)
 ·obtain ⟨p,c,m,rfl,_⟩:=h
  rfl
 obtain ⟨p,c,m,rfl,hp,m1,m2,q⟩:=h;have bA:=bt hr;refine ⟨_,Qc (Qr (PW.pt (Kl (pt_cmpR op_eq (pe_dget (u1 hr) (pv 0) pe_str (fun _ _=>rfl)) Qg (nomark _)) (pw_and1 (pt_cmpR op_lt (pe_dget (u1 hr) (pv 0) pe_str (fun _ _=>rfl)) (Qs call_len_seq rfl B.len PySem.boot_len (Qa (pe_dget (u1 hr) (pv 0) pe_str (fun _ _=>rfl)) Qb)) (nomark _))))) (Qc (ps_set (i:=2) qc.nd rfl (.inl rfl) (Qm ix_list (pe_dget (u1 hr) (pv 0) pe_str (fun _ _=>rfl)) (pe_dget (u1 hr) (pv 0) pe_str (fun _ _=>rfl)) (fun _ _=>rfl)))
  (Qc (ps_daug (u1 hr) (pv 0) pe_str Qg in_add (fun _ _ _=>rfl))
  (Qe (Qr (PW.pt (Kk (pt_cmpR op_ge (pv 2) (pe_op op_pow Qg Qg) (nomark _)) (pw_or1 (pt_cmpR op_lt (pv 2) Qg (nomark _))))) (Qe (ps_dput (u1 hr) (pv 0) pe_str (pe_op op_mod (Qs call_abs rfl B.abs boot_abs (Qa (pv 2) Qb)) (pe_op op_mulW (pe_op op_mulW (pe_op op_mulW (pe_op op_mulW (pe_op op_pow Qg Qg) (pe_op op_pow Qg Qg)) (pe_op op_pow Qg Qg)) (pe_op op_pow Qg Qg)) (pe_op op_pow Qg Qg))) rfl)) (Qe (ps_dput (u1 hr) (pv 0) pe_str (pe_op op_mod (pe_op Ko (pe_op op_mul (pe_dget (u1 hr) (pv 0) pe_str (fun _ _=>rfl)) Qg) (pe_op op_mod (pv 2) Qg)) Qg) rfl)))))) pss_nil)
  (Qc (Qr (pt_cmpR op_gt (pe_dget (u1 hr) (pv 0) pe_str (fun _ _=>rfl)) Qg (nomark _)) (Qc (ps_set (i:=3) qc.nd rfl (.inl rfl) (pe_op op_mod (pe_dget (u1 hr) (pv 0) pe_str (fun _ _=>rfl)) (pv 1)))
  (Qc (ps_dput (u1 hr) (pv 0) pe_str (pe_op op_fdivW (pe_dget (u1 hr) (pv 0) pe_str (fun _ _=>rfl)) (pv 1)) rfl)
  (Qe (Qj (pv 3))))) pss_nil)
  (Qc (ps_set (i:=4) qc.nd rfl (.inl rfl) (pe_op op_mod (pe_op Ko (pe_op op_mul (pe_dget (u1 hr) (pv 0) pe_str (fun _ _=>rfl)) Qg) Qg) Qg))
  (Qc (ps_dput (u1 hr) (pv 0) pe_str (pv 4) rfl)
  (Qe (Qj (pe_op op_mod (pe_op Ko (pe_op op_mul (pe_op op_mod (pe_op op_mul (pv 4) (pv 4)) Qg) Qg) (pe_op op_fdivW (pv 4) Qg)) (pv 1))))))),?_⟩
 obtain ⟨ns,a,l,s,uC,hc,nl,a0,a1,⟨l0,l1⟩,⟨s0,s1⟩⟩:=hp;refine Fx (fun σ' G=>∃ (a l s:Int) (o2:Option V),σ'=[some (.ref p),some (.int m),o2,none,none]/\SB [p] H G/\G p=some (.dK (gM c a l s))/\G c=some (.lst (ns.map V.int))/\0<=a/\a<=ns.length/\(0<=l/\l < 10 ^ 320)/\(0<=s/\s < 2 ^ 31)) (fun nx oO=>?_) (fun σ' G h=>?_)
 ·have cp:c ≠ p:=fun z=>by rw [z,uC] at hc; cases hc
  have stay:SB [p] H H:=SB.refl;have e31:(2:Int) ^ 31=2147483648:=by decide
  refine ⟨_,Ja,p,_,Ja,iN uC (Oc _ _ _ _),Ja,_,Ja,?_⟩;by_cases h0:l=0
  ·rw [show decide (V.int l=V.int 0)=true from Ya (by rw [h0])];refine iteT ?_;refine ⟨_,Ja,p,_,Ja,iN uC (Pt _ _ _ _),_,Ja,p,_,Ja,iN uC (Xi _ _ _ _),c,_,Ja,.inl (SqL.of hc),_,_,Ja,Ja,_,Ja,?_⟩;rw [Ye];by_cases h1:a < ns.length
   ·rw [Ya h1];refine iteT ?_;obtain ⟨j,rfl⟩:∃ j:Nat,a=(j:Int):=⟨a.toNat,by omega⟩;have ej:ns[j]?=some ns[j]:=Kp (by omega);generalize ns[j]=x at ej;refine ⟨_,Ja,p,_,Ja,iN uC (Xi _ _ _ _),_,Ja,p,_,Ja,iN uC (Pt _ _ _ _),c,_,_,_,Ja,Ja,SqL.of hc,atI_nat (j:=j) (by rw [List.getElem?_map,ej]; rfl),?_⟩;refine cJ ?_;refine ⟨_,rfl,p,_,rfl,iN uC (Pt _ _ _ _),_,_,rfl,rfl,_,DPut.k (k:=Sum.inr Ag) uC (by show 4 < sizeLine; decide),?_⟩;have t1:=SB.kE (ps:=[p]) uC (by simp) (.dK (gM c ((j:Int)+1) l s));have gq:upd H p (.dK (gM c ((j:Int)+1) l s)) p=some (.dK (gM c ((j:Int)+1) l s)):=Qt;have vE:=t1.keep _ _ hc (by simpa using cp);rw [zj1];generalize upd H p _=H1 at t1 gq vE;refine ⟨_,Ja,10,18,Ja,Ja,⟨by decide,by decide⟩,_,_,Ja,Ja,_,Ja,?_⟩;by_cases g1:(10:Int) ^ (18:Int).toNat<=x
    ·rw [Ya g1];refine iteT ?_;refine ⟨_,Ja,x,Ja,10,64,Ja,Ja,⟨by decide,by decide⟩,10,64,Ja,Ja,⟨by decide,by decide⟩,_,_,Ja,Ja,by unfold CMulW; decide +kernel,10,64,rfl,rfl,⟨by decide,by decide⟩,_,_,rfl,rfl,by unfold CMulW; decide +kernel,10,64,rfl,rfl,⟨by decide,by decide⟩,_,_,rfl,rfl,by unfold CMulW; decide +kernel,10,64,rfl,rfl,⟨by decide,by decide⟩,_,_,rfl,rfl,by unfold CMulW; decide +kernel,_,_,rfl,rfl,(by show (0:Int) < 10 ^ Int.toNat 64*10 ^ Int.toNat 64*10 ^ Int.toNat 64*10 ^ Int.toNat 64*10 ^ Int.toNat 64; decide +kernel),?_⟩;refine ⟨_,rfl,p,_,rfl,DPut.k (k:=Sum.inr "left") gq (by show 4 < sizeLine; decide),?_⟩;have t2:=SB.kE (ps:=[p]) gq (by simp) (.dK (gM c ((j:Int)+1) ((if x < 0 then -x else x) % (10 ^ 320)) s));refine oO _ _ ⟨(j:Int)+1,(if x < 0 then -x else x) % (10 ^ 320),s,_,Ja,t1.trans t2,Qt,t2.keep _ _ vE (by simpa using cp),by omega,by omega,⟨Int.emod_nonneg _ (by decide),Int.emod_lt_of_pos _ (by decide)⟩,⟨s0,s1⟩⟩
    rw [Qz g1];refine iteF ⟨_,Ja,_,_,Ja,Ja,_,Ja,?_⟩;by_cases g2:x < 0
    ·rw [Ya g2];refine iteT ?_;refine ⟨_,Ja,x,Ja,10,64,Ja,Ja,⟨by decide,by decide⟩,10,64,Ja,Ja,⟨by decide,by decide⟩,_,_,Ja,Ja,by unfold CMulW; decide +kernel,10,64,rfl,rfl,⟨by decide,by decide⟩,_,_,rfl,rfl,by unfold CMulW; decide +kernel,10,64,rfl,rfl,⟨by decide,by decide⟩,_,_,rfl,rfl,by unfold CMulW; decide +kernel,10,64,rfl,rfl,⟨by decide,by decide⟩,_,_,rfl,rfl,by unfold CMulW; decide +kernel,_,_,rfl,rfl,(by show (0:Int) < 10 ^ Int.toNat 64*10 ^ Int.toNat 64*10 ^ Int.toNat 64*10 ^ Int.toNat 64*10 ^ Int.toNat 64; decide +kernel),?_⟩;refine ⟨_,rfl,p,_,rfl,DPut.k (k:=Sum.inr "left") gq (by show 4 < sizeLine; decide),?_⟩;have t2:=SB.kE (ps:=[p]) gq (by simp) (.dK (gM c ((j:Int)+1) ((if x < 0 then -x else x) % (10 ^ 320)) s));refine oO _ _ ⟨(j:Int)+1,(if x < 0 then -x else x) % (10 ^ 320),s,_,Ja,t1.trans t2,Qt,t2.keep _ _ vE (by simpa using cp),by omega,by omega,⟨Int.emod_nonneg _ (by decide),Int.emod_lt_of_pos _ (by decide)⟩,⟨s0,s1⟩⟩
    rw [Qz g2];refine iteF ?_;refine ⟨_,Ja,p,_,Ja,iN gq (Wb _ _ _ _),_,_,Ja,Ja,.inr ⟨by decide,by decide⟩,_,Ja,_,_,Ja,Ja,(by show (0:Int) < 2147483629; decide),_,_,rfl,rfl,_,_,rfl,rfl,(by show (0:Int) < 2147483647; decide),?_⟩;refine ⟨_,rfl,p,_,rfl,DPut.k (k:=Sum.inr "seed") gq (by show 4 < sizeLine; decide),?_⟩;have t2:=SB.kE (ps:=[p]) gq (by simp) (.dK (gM c ((j:Int)+1) l ((s*48271+x % 2147483629) % 2147483647)));have b1:=Int.emod_nonneg (s*48271+x % 2147483629) (show (2147483647:Int) ≠ 0 by decide);have b2:=Int.emod_lt_of_pos (s*48271+x % 2147483629) (show (0:Int) < 2147483647 by decide);exact oO _ _ ⟨(j:Int)+1,l,(s*48271+x % 2147483629) % 2147483647,_,Ja,t1.trans t2,Qt,t2.keep _ _ vE (by simpa using cp),by omega,by omega,⟨l0,l1⟩,by omega,by omega⟩
   ·rw [Qz h1];exact iteF (oO _ _ ⟨a,l,s,_,Ja,stay,uC,hc,a0,a1,⟨l0,l1⟩,⟨s0,s1⟩⟩)
  ·rw [show decide (V.int l=V.int 0)=false from Qz (fun z=>h0 (by injection z))];exact iteF (oO _ _ ⟨a,l,s,_,Ja,stay,uC,hc,a0,a1,⟨l0,l1⟩,⟨s0,s1⟩⟩)
 ·obtain ⟨a,l,s,o2,rfl,s2,eT,qD,a0,a1,⟨l0,l1⟩,⟨s0,s1⟩⟩:=h;have cp:c ≠ p:=fun z=>by rw [z,eT] at qD; cases qD
  refine Fx (fun σ' G2=>σ'=[some (.ref p),some (.int m),o2,none,none]/\G2=G/\l=0) (fun nx oO=>?_) (fun σ' G2 h=>?_)
  ·refine ⟨_,Ja,p,_,Ja,iN eT (Oc _ _ _ _),_,_,Ja,Ja,_,Ja,?_⟩;by_cases h0:0 < l
   ·rw [Ya h0];refine iteT ?_;refine ⟨_,Ja,p,_,Ja,iN eT (Oc _ _ _ _),_,Ja,_,_,Ja,Ja,(show (0:Int) < m by omega),?_⟩;refine cJ ?_;refine ⟨_,Ja,p,_,Ja,iN eT (Oc _ _ _ _),_,Ja,_,_,Ja,Ja,⟨by omega,Nat.lt_of_lt_of_le ((Nat.log2_lt (show m.natAbs ≠ 0 by omega)).mpr (show m.natAbs < 2 ^ 2000 by omega)) (by decide)⟩,?_⟩;refine ⟨_,rfl,p,_,rfl,DPut.k (k:=Sum.inr "left") eT (by show 4 < sizeLine; decide),?_⟩;have t2:=SB.kE (ps:=[p]) eT (by simp) (.dK (gM c a (l / m) s));refine ⟨_,Ja,q _ _ (Int.emod_nonneg _ (by omega)) (Int.emod_lt_of_pos _ (by omega)) (s2.trans t2) ⟨ns,a,l / m,s,Qt,t2.keep _ _ qD (by simpa using cp),nl,a0,a1,⟨Int.ediv_nonneg l0 (by omega),Int.lt_of_le_of_lt (Int.ediv_le_self m l0) l1⟩,⟨s0,s1⟩⟩⟩
   ·rw [Qz h0];exact iteF (oO _ _ ⟨rfl,Ja,by omega⟩)
  ·obtain ⟨rfl,rfl,rfl⟩:=h;have e31:(2:Int) ^ 31=2147483648:=by decide
   refine ⟨_,Ja,p,_,Ja,iN eT (Wb _ _ _ _),_,_,Ja,Ja,.inr ⟨by decide,by decide⟩,_,_,Ja,Ja,_,_,Ja,Ja,(by show (0:Int) < 2147483629; decide),?_⟩;have b1:=Int.emod_nonneg (s*69621+16807) (show (2147483629:Int) ≠ 0 by decide);have b2:=Int.emod_lt_of_pos (s*69621+16807) (show (0:Int) < 2147483629 by decide);refine cJ ?_;refine ⟨_,rfl,_,rfl,p,_,rfl,DPut.k (k:=Sum.inr "seed") eT (by show 4 < sizeLine; decide),?_⟩;have t2:=SB.kE (ps:=[p]) eT (by simp) (.dK (gM c a 0 ((s*69621+16807) % 2147483629)));have m1:CMul ((s*69621+16807) % 2147483629) ((s*69621+16807) % 2147483629):=.inl ⟨Int.lt_of_lt_of_le (by decide) b1,Int.lt_trans b2 (by decide)⟩;refine ⟨_,Ja,_,Ja,_,_,Ja,Ja,m1,_,_,Ja,Ja,(by show (0:Int) < 2147483587; decide),_,_,rfl,rfl,.inr ⟨by decide,by decide⟩,_,rfl,_,_,rfl,rfl,⟨by decide,by decide⟩,_,_,rfl,rfl,_,rfl,_,_,rfl,rfl,(show (0:Int) < m by omega),?_⟩;exact q _ _ (Int.emod_nonneg _ (by omega)) (Int.emod_lt_of_pos _ (by omega)) (s2.trans t2) ⟨ns,a,0,((s*69621+16807) % 2147483629),Qt,t2.keep _ _ qD (by simpa using cp),nl,a0,a1,⟨by omega,by decide⟩,⟨b1,by omega⟩⟩
abbrev zl7:List Str:=[aD,au,"_law_pair","_law_more"]
theorem uc:FnScope zl7 [aD,au] (defScope Gx):=fS
theorem z72 {ps:List Str}:FnOk P w K mg base CX0 k f fd ps (xR K 0):=tG fun vs H Q E ⟨v,u,l,k,_,_,_,h,_⟩=>by omega
theorem zha (B:BI mg) (j4:Got P w K mg base bL [aD,au] (n) (xR K n)) (F:Fun K bL bL Gx f fd):FnOk P w K mg base CX0 (n+1) f fd [aD,au] (xR K (n+1)):=by
 refine F.ok uc (fun vs H Q E h=>?_) (fun _ A _ _ H vs Q E hr h=>?_)
 ·obtain ⟨v,u,l,o,rfl,_⟩:=h
  rfl
 obtain ⟨v,u,l,o,rfl,hv,hu,Zb,hd,hd2,q⟩:=h;have bA:=bt hr;refine ⟨_,Qc (ps_for PassesOwn.never rfl (RZ.pi_zipA rfl B.zip (Qa (pv 0) (Qa (pv 1) Qb))) (pg_tup rfl (Qi (pg_name (i:=2) uc.nd rfl (.inl rfl)) (Qi (pg_name (i:=3) uc.nd rfl (.inl rfl)) pgs_nil)))
   (Qe (Qr (pt_cmpR (op_neD (ig hr)) (pv 2) (pv 3) (nomark _)) (Qc (Qr (pt_cmpR (op_neD (ig hr)) (Qm Ql (pv 2) Qg (fun _ _=>rfl)) (Qm Ql (pv 3) Qg (fun _ _=>rfl)) (nomark _)) (Qe (Qj (aT j4 (Hm hr) rfl (Qa (Qm Ql (pv 2) Qg (fun _ _=>rfl)) (Qa (Qm Ql (pv 3) Qg (fun _ _=>rfl)) Qb))))) pss_nil)
  (Qe (Qj (pe_cmpR op_lt (Qm Ql (pv 2) Qg (fun _ _=>rfl)) (Qm Ql (pv 3) Qg (fun _ _=>rfl)) (nomark _))))) pss_nil)))
  (Qe (Qj (pe_cmpR op_lt (Qs call_len_seq rfl B.len PySem.boot_len (Qa (pv 0) Qb)) (Qs call_len_seq rfl B.len PySem.boot_len (Qa (pv 1) Qb)) (nomark _)))),?_⟩
 obtain ⟨a,xs,rfl,iq,gH⟩:=lz hv;obtain ⟨b,ys,rfl,hY,gG⟩:=lz hu;have xl:=gH.length;have yl:=gG.length;refine ⟨_,Ja,_,Ja,a,b,xs,ys,Ja,.inr ⟨iq,hY,?_⟩⟩;refine for_it (zc3 (xs:=xs) (ys:=ys) (n:=min xs.length ys.length) rfl) (fun i σ H2=>SB [] H H2/\(∃ o2 o3:Option V,σ=[some (.ref a),some (.ref b),o2,o3])/\i<=l.ps.length/\i<=o.ps.length/\l.lt o=(Lad.ofPs (l.ps.drop i)).lt (Lad.ofPs (o.ps.drop i))) ⟨SB.refl,⟨none,none,Ja⟩,Nat.zero_le _,Nat.zero_le _,by rw [List.drop_zero,List.drop_zero,Lad.aC,Lad.aC]⟩ (fun i σ H2 hi h2=>⟨h2.1.aL iq,h2.1.aL hY⟩) (fun i x σ H2 H' hi h2 y=>?_) (fun σ H2 h2=>?_)
 ·obtain ⟨s2,⟨o2,o3,rfl⟩,il,io,dZ⟩:=h2;obtain ⟨T,e1,e2,rfl,hT,rfl,Mq,Mp⟩:=y;obtain ⟨p1,sJ,gq⟩:=gH.get Mq;obtain ⟨p2,pf,eT⟩:=gG.get Mp;obtain ⟨a1,u1,rfl,jZ,i7⟩:=nG gq;obtain ⟨a2,u2,rfl,dM,jC⟩:=nG eT;have d1:=l.av p1 (Qu sJ);have d2:=o.av p2 (Qu pf);have i1:=(Kq sJ).1;have i2:=(Kq pf).1;rw [Lad.qi sJ pf] at dZ;have t3:=Jb hT (.tup [.ref a1,.ref a2]);have oU:=iV (K:=K) t3;have s3:=s2.trans t3;generalize upd H2 T _=H3 at t3 oU s3;have AW:=cI s3 _ _ (Lad.af _) gq;have Sl:=cI s3 _ _ (Lad.af _) eT;refine ⟨T,_,Ja,oU,Ja,_,_,Ja,_,_,Ja,Ja,?_⟩;refine ⟨_,Ja,_,Ja,Lad.aB p1,Lad.aB p2,AW,Sl,Lad.dF (by omega),Lad.dF (by omega),_,Ja,?_⟩;rw [Lad.mY];by_cases he:p1.1=p2.1
  ·by_cases hm:p1.2=p2.2
   ·rw [show (!(decide (p1.1=p2.1)&&decide (p1.2=p2.2)))=false by simp [he,hm]];rw [if_pos he,if_pos hm] at dZ;exact iteF ⟨s3,⟨_,_,Ja⟩,by omega,by omega,dZ⟩
   ·rw [show (!(decide (p1.1=p2.1)&&decide (p1.2=p2.2)))=true by simp [hm]];rw [if_pos he,if_neg hm] at dZ;refine iteT ?_;refine ⟨_,Ja,a1,_,_,_,Ja,Ja,s3.aL jZ,atI_nat (j:=0) rfl,_,Ja,a2,_,_,_,Ja,Ja,s3.aL dM,atI_nat (j:=0) rfl,p1.1.enc,p2.1.enc,i7.sb s3,jC.sb s3,Lad.aH (by omega),Lad.aH (by omega),_,Ja,?_⟩;rw [Lad.bc,show (!decide (p1.1=p2.1))=false by simp [he]];refine iteF ?_;refine ⟨_,Ja,a1,_,_,_,Ja,Ja,s3.aL jZ,atI_nat (j:=1) rfl,_,Ja,a2,_,_,_,Ja,Ja,s3.aL dM,atI_nat (j:=1) rfl,_,_,Ja,Ja,?_⟩;have:=q H3 s3;rw [dZ] at this;exact this
  ·rw [show (!(decide (p1.1=p2.1)&&decide (p1.2=p2.2)))=true by simp [he]];rw [if_neg he] at dZ;refine iteT ?_;refine ⟨_,Ja,a1,_,_,_,Ja,Ja,s3.aL jZ,atI_nat (j:=0) rfl,_,Ja,a2,_,_,_,Ja,Ja,s3.aL dM,atI_nat (j:=0) rfl,p1.1.enc,p2.1.enc,i7.sb s3,jC.sb s3,Lad.aH (by omega),Lad.aH (by omega),_,Ja,?_⟩;rw [Lad.bc,show (!decide (p1.1=p2.1))=true by simp [he]];refine iteT ?_;refine ⟨_,Ja,a1,_,_,_,Ja,Ja,s3.aL jZ,atI_nat (j:=0) rfl,_,Ja,a2,_,_,_,Ja,Ja,s3.aL dM,atI_nat (j:=0) rfl,u1,u2,p1.1,p2.1,Ja,i7.sb s3,jC.sb s3,by omega,by omega,by omega,fun H4 s4=>?_⟩;have:=q H4 (s3.trans s4);rw [dZ] at this;exact this
 ·obtain ⟨s2,⟨o2,o3,rfl⟩,il,io,dZ⟩:=h2;have SU:=Lad.DC il io (by omega);refine ⟨_,Ja,a,xs,Ja,.inr (s2.aL iq),_,Ja,b,ys,Ja,.inr (s2.aL hY),_,_,Ja,Ja,?_⟩;have:=q H2 s2;rw [dZ,SU] at this;have e:decide ((xs.length:Int) < (ys.length:Int))=(decide (min xs.length ys.length=l.ps.length)&&decide (min xs.length ys.length < o.ps.length)):=by
   by_cases h:xs.length < ys.length
   ·have h1:min xs.length ys.length=l.ps.length:=by omega
    have h2:min xs.length ys.length < o.ps.length:=by omega
    rw [Ya h1,Ya h2,Ya (by omega)]; rfl
   ·have h2:¬ min xs.length ys.length < o.ps.length:=by omega
    rw [Qz h2,Bool.and_false,Qz (by omega)]
  rw [<- e] at this;exact this
abbrev EL:List Str:=[aD,au,"_law_first","_law_kept",a5,"_law_pair"]
theorem oB:FnScope EL [aD,au] (defScope uf):=fS
theorem zj8 (B:BI mg) (j4:Got P w K mg base bL [aD,au] (40) (xR K 40)) (F:Fun K cV cV uf f fd):FnOk P w K mg base CX0 (41) f fd [aD,au] (QE K):=by
 refine F.ok oB (fun vs H Q E h=>?_) (fun _ A _ s H vs Q E hr h=>?_)
 ·obtain ⟨v,u,l,k,rfl,_⟩:=h
  rfl
 obtain ⟨v,u,l,k,rfl,hv,hu,hd,hd2,hp,eT,q⟩:=h;have bA:=bt hr;refine ⟨_,Qc (Qr (pt_cmpR (op_eqD (ig hr)) (pv 1) (Ka Qb) (nomark _)) (Qe (Qj (pv 0))) pss_nil)
  (Qc (ps_set (i:=2) oB.nd rfl (.inr rfl) (Qm Ql (Qm Ql (pv 1) Qg (fun _ _=>rfl)) Qg (fun _ _=>rfl)))
  (Qc (ps_setLc (i:=3) (own:=[("_law_pair",5)]) (g:=(gName 5)) (tt:=(tB (tCall (xR K 40) [] E0 (tCons (tVar 2) (tCons (tOp (rIxT K) (tVar 5) (tC (.int 0))) tNil))))) (te:=(tVar 5)) rfl oB.nd rfl rfl (sw_true rfl rfl rfl (by decide +kernel)) (pi_tup (pv 0)) (blkOk_by (N:=EL) (sc:=defScope uf) (by decide +kernel)) (fun _ _ _ _ _=>(pg_name (i:=5) oB.nd rfl (.inl rfl))) (fun _ _ _ _ _=>(pts_one (Qo (aT j4 (Hm hr) rfl (Qa (pv 2) (Qa (Qm Ql (pv 5) Qg (fun _ _=>rfl)) Qb)))))) (fun _ _ _ _ _=>(pv 5)))
  (Qc (ps_setLc (i:=4) (own:=[("_law_pair",5)]) (g:=(gName 5)) (tt:=(tTest (tOp (rEqD K) (tOp (rIxT K) (tVar 5) (tC (.int 0))) (tVar 2)))) (te:=(tOp (rIxT K) (tVar 5) (tC (.int 1)))) rfl oB.nd rfl rfl (sw_true rfl rfl rfl (by decide +kernel)) (pi_tup (pv 0)) (blkOk_by (N:=EL) (sc:=defScope uf) (by decide +kernel)) (fun _ _ _ _ _=>(pg_name (i:=5) oB.nd rfl (.inl rfl))) (fun _ _ _ _ _=>(pts_one (pt_cmpR (op_eqD (ig hr)) (Qm Ql (pv 5) Qg (fun _ _=>rfl)) (pv 2) (nomark _)))) (fun _ _ _ _ _=>(Qm Ql (pv 5) Qg (fun _ _=>rfl))))
  (Qe (Qj (pe_op zT (pe_op zT (pe_callTy call_tuple_of rfl B.tuple boot_tuple (Qa (pv 3) Qb)) (Ka (Qa (Ka (Qa (pv 2) (Qa (pe_op Ko (Qm Ql (Qm Ql (pv 1) Qg (fun _ _=>rfl)) Qg (fun _ _=>rfl)) (Qs (cr_sum rfl) rfl B.sum boot_sum (Qa (pv 4) Qb))) Qb))) Qb))) (pe_slice CS (pv 1) (po_some Qg) po_none))))))),?_⟩
 have jy:=sizeLine_eq;obtain ⟨a,xs,rfl,iq,gH⟩:=lz hv;obtain ⟨b,ys,rfl,hY,gG⟩:=lz hu;have xl:=gH.length;have lp:=l.aF;rw [<- Lad.bB] at lp;refine ⟨_,Ja,Z0,fun z nz=>?_⟩;have t1:=Jb nz (.tup []);have mT:=eZ t1;generalize upd H z _=H1 at t1 mT;refine ⟨k.enc,Lad.enc .nil,LA.sb hu t1,Bx (SqT.of mT),Lad.aH (by omega),Lad.aH (by decide),_,Ja,?_⟩;rw [Lad.bc];cases k with
 | nil =>
  refine iteT ⟨_,Ja,?_⟩;have:=q (.ref a) H1 t1;rw [Lad.fU] at this;exact this (LA.sb hv t1)
 | cons e m r =>
  refine iteF ?_;rw [show (Lad.cons e m r).ps=(e,m)::r.ps from rfl] at gG;cases gG with
  | @cons y0 yr _ _ h0 hbr =>
  obtain ⟨c,ue,rfl,oN,hle⟩:=nG h0;have ed:e.deep < (Lad.cons e m r).deep:=Lad.av (.cons e m r) (e,m) (bM ..);refine ⟨_,Ja,b,_,_,.ref c,Ja,Ja,t1.aL hY,atI_nat (j:=0) rfl,c,_,_,ue,Ja,Ja,t1.aL oN,atI_nat (j:=0) rfl,?_⟩;refine ⟨_,Ja,a,Ja,⟨xs,t1.aL iq⟩,fun D nD=>?_⟩;refine oo (walk_tup (xs:=xs)) nD (by omega) (fun i ws H2=>Bears K H2 Lad.aB ws ((l.ps.take i).filter fun p=>e.lt p.1)) .nil (fun H2 s2=>(t1.trans s2).aL iq) (fun _ _ _ _ s h=>h.sb s Lad.af) (fun Pv i x Hq H2 ws hi s2 y hR DL fin skip=>?_) (fun ws H3 s3 bH hR DL=>?_)
  ·obtain ⟨rfl,ey⟩:=y;obtain ⟨p,ep,fz⟩:=gH.get ey;obtain ⟨ad,ux,rfl,dM,xb⟩:=nG fz;have jz:=t1.trans s2;have pd:=l.av p (Qu ep);refine ⟨rfl,?_⟩;refine ⟨_,Ja,_,Ja,ad,_,_,ux,Ja,Ja,jz.aL dM,atI_nat (j:=0) rfl,ue,ux,e,p.1,Ja,LA.sb hle jz,LA.sb xb jz,by omega,by omega,by omega,fun H4 s4=>⟨_,Ja,?_⟩⟩;have e0:(l.ps.take (i+1)).filter (fun p=>e.lt p.1)=(l.ps.take i).filter (fun p=>e.lt p.1)++(if e.lt p.1=true then [p] else []):=by
    rw [Yg,ep,List.filter_append];cases hc:e.lt p.1 <;> simp [hc]
   cases hc:e.lt p.1 with
   | true =>
    refine iteT ⟨_,Ja,fin _ _ s4 ?_⟩;rw [e0,if_pos hc];exact (hR.sb s4 Lad.af).append (.cons (cI (jz.trans s4) _ _ (Lad.af _) fz) .nil)
   | false =>
    refine iteF (skip _ s4 ?_);rw [e0,if_neg (by simp [hc]),Kz];exact hR.sb s4 Lad.af
  rw [xl,Yh] at hR;have hO:=t1.trans s3;refine ⟨_,Ja,a,Ja,⟨xs,hO.aL iq⟩,fun D2 F0=>?_⟩;refine oo (walk_tup (xs:=xs)) F0 (by omega) (fun i ws _=>ws=(((l.ps.take i).filter fun x=>decide (x.1=e)).map (·.2)).map V.int) rfl (fun H2 s2=>(hO.trans s2).aL iq) (fun _ _ _ _ _ h=>h) (fun Pv i x Hq H2 ws2 hi s2 y KR ON fin skip=>?_) (fun ws2 H4 s4 jD KR ON=>?_)
  ·obtain ⟨rfl,ey⟩:=y;obtain ⟨p,ep,fz⟩:=gH.get ey;obtain ⟨ad,ux,rfl,dM,xb⟩:=nG fz;have jz:=hO.trans s2;have pd:=l.av p (Qu ep);refine ⟨rfl,?_⟩;refine ⟨_,Ja,ad,_,_,ux,Ja,Ja,jz.aL dM,atI_nat (j:=0) rfl,_,Ja,p.1.enc,e.enc,LA.sb xb jz,LA.sb hle jz,Lad.aH (by omega),Lad.aH (by omega),_,Ja,?_⟩;rw [Lad.bc];by_cases he:p.1=e
   ·rw [Ya he];refine iteT ⟨_,Ja,ad,_,_,_,Ja,Ja,jz.aL dM,atI_nat (j:=1) rfl,fin _ _ SB.refl ?_⟩;rw [KR,Yg,ep];simp [he]
   ·rw [Qz he];refine iteF (skip _ SB.refl ?_);rw [KR,Yg,ep];simp [he]
  rw [xl,Yh] at KR;subst KR;refine cJ ?_;have tc:=hO.trans s4;have Tu:=s4.keep _ _ bH aP;have B6:=hR.sb s4 Lad.af;refine ⟨_,Ja,D,ws,Ja,.inl ⟨SqL.of Tu,fun kt Ad=>?_⟩⟩;have s5:=Jb Ad (.tup ws);have JM:=eZ s5;have vF:=B6.sb s5 Lad.af;have KW:=s5.keep _ _ jD aP;have kq:=tc.trans s5;generalize upd H4 kt _=H5 at s5 JM vF kq KW;refine ⟨_,Ja,_,Ja,b,_,_,.ref c,Ja,Ja,kq.aL hY,atI_nat (j:=0) rfl,c,_,_,_,Ja,Ja,kq.aL oN,atI_nat (j:=1) rfl,_,Ja,D2,_,Ja,SqL.of KW,?_⟩;rw [Pq];refine ⟨_,_,Ja,Ja,(dY),fun XU Se=>?_⟩;have s6:=Jb Se (.tup [ue,.int (m+Lad.aK l.ps e)]);have F8:=eZ s6;generalize upd H5 XU _=H6 at s6 F8;refine ⟨(lH),fun t2 DO=>?_⟩;have s7:=Jb DO (.tup [.ref XU]);have YT:=eZ s7;have Jv:=s7.aL (SqT.of (K:=K) F8);generalize upd H6 t2 _=H7 at s7 YT Jv;have al:=hR.length;have sX:=s6.trans s7;refine ⟨kt,t2,_,_,Ja,Ja,sX.aL (SqT.of JM),SqT.of YT,by rw [Yi]; omega,fun c1 H8 s8 vE=>?_⟩;have Yp:=(kq.trans sX).trans s8;refine ⟨_,Ja,1,Ja,b,_,Ja,Yp.aL hY,fun c2 H9 s9 qD=>?_⟩;have e1:cutV (V.ref c::yr) (some 1) none=yr:=by
   have:=PH (V.ref c::yr) 1;exact this
  rw [e1] at qD;have rl:=hbr.length;have rp:=(Lad.cons e m r).aF;have rp2:r.ps.length+1=(Lad.cons e m r).len:=by rw [<- Lad.bB]; rfl
  refine ⟨c1,c2,_,_,Ja,Ja,s9.aL vE,qD,by rw [Yf,Yi]; omega,fun c3 xO Aw Kj=>?_⟩;have wk:=(Yp.trans s9).trans Aw;refine q _ _ wk ?_;rw [Lad.gT,Int.add_comm (Lad.aK l.ps e) m];refine BD Kj ?_;have z1:=((sX.trans s8).trans s9).trans Aw;rw [List.append_assoc];refine Bears.append (vF.sb z1 Lad.af) (.cons ?_ (hbr.sb wk Lad.af));exact Dp.tup (((s8.trans s9).trans Aw).aL Jv) (.cons (LA.sb hle wk) (.cons (.int _) .nil))
abbrev UD:List Str:=[aD,au,bE,"_law_left","_law_right"]
theorem vd:FnScope UD [aD,au] (defScope ye):=fS
theorem zma (B:BI mg) (j4:Got P w K mg base bL [aD,au] (40) (xR K 40)) (F:Fun K eX eX ye f fd):FnOk P w K mg base CX0 (41) f fd [aD,au] (PZ K):=by
 refine F.ok vd (fun vs H Q E h=>?_) (fun _ A _ _ H vs Q E hr h=>?_)
 ·obtain ⟨v,u,l,k,rfl,_⟩:=h
  rfl
 obtain ⟨v,u,l,k,rfl,hv,hu,hd,hd2,hp,eT,q⟩:=h;have bA:=bt hr;refine ⟨_,Qc (ps_set (i:=2) vd.nd rfl (.inl rfl) (pe_lst Qb))
  (Qc (ps_set (i:=3) vd.nd rfl (.inl rfl) (pe_callTy call_list_of rfl B.list boot_list (Qa (pv 0) Qb)))
  (Qc (ps_set (i:=4) vd.nd rfl (.inl rfl) (pe_callTy call_list_of rfl B.list boot_list (Qa (pv 1) Qb)))
  (Qc (ps_while PassesOwn.never (PW.pt (Kl (pt_cmpR (op_neD (ig hr)) (pv 3) (pe_lst Qb) (nomark _)) (pw_and1 (pt_cmpR (op_neD (ig hr)) (pv 4) (pe_lst Qb) (nomark _))))) (Qe (Qr (pt_cmpR (op_eqD (ig hr)) (Qm Ql (Qm ix_list (pv 3) Qg (fun _ _=>rfl)) Qg (fun _ _=>rfl)) (Qm Ql (Qm ix_list (pv 4) Qg (fun _ _=>rfl)) Qg (fun _ _=>rfl)) (nomark _)) (Qe (Kf (Kn Ki PySem.F.slot_list_append PySem.F.type_list_append mt_append (pv 2) (Qa (Ka (Qa (Qm Ql (Qm ix_list (pv 3) Qg (fun _ _=>rfl)) Qg (fun _ _=>rfl)) (Qa (pe_op Ko (Qm Ql (Kn Ki PySem.F.slot_list_pop PySem.F.type_list_pop mt_popAt (pv 3) (Qa Qg Qb)) Qg (fun _ _=>rfl)) (Qm Ql (Kn Ki PySem.F.slot_list_pop PySem.F.type_list_pop mt_popAt (pv 4) (Qa Qg Qb)) Qg (fun _ _=>rfl))) Qb))) Qb)))) (Qe (Qr (Qo (aT j4 (Hm hr) rfl (Qa (Qm Ql (Qm ix_list (pv 3) Qg (fun _ _=>rfl)) Qg (fun _ _=>rfl)) (Qa (Qm Ql (Qm ix_list (pv 4) Qg (fun _ _=>rfl)) Qg (fun _ _=>rfl)) Qb)))) (Qe (Kf (Kn Ki PySem.F.slot_list_append PySem.F.type_list_append mt_append (pv 2) (Qa (Kn Ki PySem.F.slot_list_pop PySem.F.type_list_pop mt_popAt (pv 4) (Qa Qg Qb)) Qb)))) (Qe (Kf (Kn Ki PySem.F.slot_list_append PySem.F.type_list_append mt_append (pv 2) (Qa (Kn Ki PySem.F.slot_list_pop PySem.F.type_list_pop mt_popAt (pv 3) (Qa Qg Qb)) Qb)))))))))
  (Qe (Qj (pe_callTy call_tuple_of rfl B.tuple boot_tuple (Qa (pe_op op_cat (pe_op op_cat (pv 2) (pv 3)) (pv 4)) Qb))))))),?_⟩
 have jy:=sizeLine_eq;obtain ⟨a,xs,rfl,iq,gH⟩:=lz hv;obtain ⟨b,ys,rfl,hY,gG⟩:=lz hu;have xl:=gH.length;have yl:=gG.length;have Jj:=l.aF;have OL:=k.aF;rw [<- Lad.bB] at Jj OL;have ld:∀ p ∈ l.ps,p.1.deep<=30:=fun p hp=>by have:=l.av p hp; omega
 have kd:∀ p ∈ k.ps,p.1.deep<=30:=fun p hp=>by have:=k.av p hp; omega
 refine ⟨Z0,fun D hD=>?_⟩;have t0:=Jb hD (.lst []);have Es:=eZ t0;generalize upd H D _=H0 at t0 Es;refine cJ ?_;refine ⟨_,Ja,a,_,Ja,.inr (t0.aL iq),fun A hA=>?_⟩;have t1:=Jb hA (.lst xs);have Tw:=eZ t1;have oi:=t1.keep _ _ Es aP;have DA:D ≠ A:=ne_of_none Es hA;have s1:=t0.trans t1;have nA:H A=none:=t0.kU _ hA;generalize upd H0 A _=H1 at t1 Tw oi s1;refine cJ ?_;refine ⟨_,Ja,b,_,Ja,.inr (s1.aL hY),fun B hB=>?_⟩;have t2:=Jb hB (.lst ys);have ZE:=eZ t2;have aV:=t2.keep _ _ oi aP;have ZG:=t2.keep _ _ Tw aP;have DB:D ≠ B:=ne_of_none oi hB;have AB:A ≠ B:=ne_of_none Tw hB;have s2:=s1.trans t2;have nB:H B=none:=s1.kU _ hB;generalize upd H1 B _=H2 at t2 ZE aV ZG s2;refine cJ ?_;refine ⟨fun mm σ G=>∃ (F L R:List (Lad × Int)) (fs ls rs:List V),mm=L.length+R.length/\SB [D,A,B] H G/\σ=[some (.ref a),some (.ref b),some (.ref D),some (.ref A),some (.ref B)]/\G D=some (.lst fs)/\G A=some (.lst ls)/\G B=some (.lst rs)/\Bears K G Lad.aB fs F/\Bears K G Lad.aB ls L/\Bears K G Lad.aB rs R/\Lad.mrg l k=Lad.ofPs (F++(Lad.mrg (Lad.ofPs L) (Lad.ofPs R)).ps)/\F.length+L.length+R.length<=9000000/\(∀ p ∈ L,p.1.deep<=30)/\(∀ p ∈ R,p.1.deep<=30),
  ⟨_,[],l.ps,k.ps,[],xs,ys,rfl,s2.nil,rfl,aV,ZG,ZE,.nil,gH.sb s2 Lad.af,gG.sb s2 Lad.af,by rw [List.nil_append,Lad.aC,Lad.aC,Lad.aC],by show 0+_+_<=_; omega,ld,kd⟩,fun mm σ G hG=>?_⟩
 obtain ⟨F,L,R,fs,ls,rs,rfl,s3,rfl,bH,Tv,ZD,hF,hL,hR,AX,hlen,Ld,Rd⟩:=hG;have fl:=hF.length;have ll:=hL.length;have rl:=hR.length
 -- what is behind the loop
 have fin:L=[]\/R=[]->∀ G2,SB [] G G2->tRet (tCB (fun xs MF Q=>∃ p ys,xs=[V.ref p]/\((SqL K MF p ys/\∀ l,MF l=none->Q (V.ref l) (upd MF l (HO.tup ys)))\/(SqT K MF p ys/\Q (V.ref p) MF))) (tCons (tOp rCat (tOp rCat (tVar 2) (tVar 3)) (tVar 4)) tNil)) { nx:=fun x H'=>Q V.non H',rt:=Q } [some (.ref a),some (.ref b),some (.ref D),some (.ref A),some (.ref B)] G2:=fun JG G2 u=>by
  have jD:=u.keep _ _ bH aP;have hA4:=u.keep _ _ Tv aP;have hB4:=u.keep _ _ ZD aP;refine ⟨_,Ja,_,Ja,D,A,_,_,Ja,Ja,jD,hA4,by omega,fun M hM=>?_⟩;have t5:=Jb hM (.lst (fs++ls));have KS:=eZ t5;have Cc:=t5.keep _ _ hB4 aP;generalize upd G2 M _=G5 at t5 KS Cc;refine ⟨_,Ja,M,B,_,_,Ja,Ja,KS,Cc,by rw [Yf]; omega,fun N hN=>?_⟩;have t6:=Jb hN (.lst (fs++ls++rs));have Gg:=eZ t6;generalize upd G5 N _=G6 at t6 Gg;refine ⟨N,_,Ja,.inl ⟨SqL.of Gg,fun T nT=>?_⟩⟩;have t7:=Jb nT (.tup (fs++ls++rs));have u7:=((u.trans t5).trans t6).trans t7;refine q (.ref T) _ ((((s3.trans u7.nil).drop hD).drop nA).drop nB) ?_;have e:Lad.mrg l k=Lad.ofPs (F++L++R):=by
   rw [AX];rcases JG with h | h
   ·rw [h,show Lad.ofPs ([]:List (Lad × Int))=.nil from rfl,Lad.oH,Lad.aQ,Kz]
   ·rw [h,show Lad.ofPs ([]:List (Lad × Int))=.nil from rfl,Lad.oG,Lad.aQ,Kz]
  rw [e];exact BD (SqT.of Qt) (((hF.sb u7 Lad.af).append (hL.sb u7 Lad.af)).append (hR.sb u7 Lad.af))
 refine ⟨_,Ja,Z0,fun z0 Rw=>?_⟩;have t4:=Jb Rw (.lst []);have AR:=eZ t4;generalize upd G z0 _=G4 at t4 AR;refine ⟨.list (L.map Lad.aB),.list [],Dp.lst (SqL.of (t4.keep _ _ Tv aP)) (Ij (hL.sb t4 Lad.af)),Dp.lst (SqL.of AR) .nil,Lad.jM Ld,by decide +kernel,_,Ja,?_⟩;cases hLc:L with
 | nil =>
  rw [show (!PyData.eqv (.list (([]:List (Lad × Int)).map Lad.aB)) (.list []))=false by simp [PyData.eqv,PyData.eqvAll]];exact iteF (iteF (fin (.inl hLc) G4 t4))
 | cons p1 L2 =>
 rw [show (!PyData.eqv (.list ((p1::L2).map Lad.aB)) (.list []))=true by simp [PyData.eqv,PyData.eqvAll]];refine iteT ?_;refine ⟨_,Ja,Z0,fun z1 yq=>?_⟩;have t5:=Jb yq (.lst []);have xE:=eZ t5;have u5:=t4.trans t5;generalize upd G4 z1 _=G5 at t5 xE u5;have eQ:=u5.keep _ _ bH aP;have Eu:=u5.keep _ _ Tv aP;have Cc:=u5.keep _ _ ZD aP;have Gh:=hF.sb u5 Lad.af;have qH:=hL.sb u5 Lad.af;have vF:=hR.sb u5 Lad.af;refine ⟨.list (R.map Lad.aB),.list [],Dp.lst (SqL.of Cc) (Ij vF),Dp.lst (SqL.of xE) .nil,Lad.jM Rd,by decide +kernel,_,Ja,?_⟩;cases hRc:R with
 | nil =>
  rw [show (!PyData.eqv (.list (([]:List (Lad × Int)).map Lad.aB)) (.list []))=false by simp [PyData.eqv,PyData.eqvAll]];exact iteF (fin (.inr hRc) G5 u5)
 | cons p2 R2 =>
 rw [show (!PyData.eqv (.list ((p2::R2).map Lad.aB)) (.list []))=true by simp [PyData.eqv,PyData.eqvAll]];refine iteT ⟨_,fun σ' H' h=>h,?_⟩;subst hLc hRc;have s5:SB [D,A,B] H G5:=s3.trans u5.nil;cases qH with
 | @cons v1 ls2 _ _ hv1 qH =>
 cases vF with
 | @cons v2 oC _ _ hv2 vF =>
 obtain ⟨a1,u1,rfl,jZ,i7⟩:=nG hv1;obtain ⟨a2,u2,rfl,dM,jC⟩:=nG hv2;obtain ⟨e1,m1⟩:=p1;obtain ⟨e2,m2⟩:=p2;have ed1:e1.deep<=30:=Ld (e1,m1) (bM ..);have ed2:e2.deep<=30:=Rd (e2,m2) (bM ..);have Ld2:∀ p ∈ L2,p.1.deep<=30:=fun p hp=>Ld p (bR _ hp);have Rd2:∀ p ∈ R2,p.1.deep<=30:=fun p hp=>Rd p (bR _ hp);rw [show Lad.ofPs ((e1,m1)::L2)=.cons e1 m1 (Lad.ofPs L2) from rfl,show Lad.ofPs ((e2,m2)::R2)=.cons e2 m2 (Lad.ofPs R2) from rfl,Lad.rX] at AX;have Jl:((e1,m1)::L2).length=L2.length+1:=rfl;have Jk:((e2,m2)::R2).length=R2.length+1:=rfl;rw [Jl,Jk] at hlen;refine ⟨_,Ja,A,_,_,_,Ja,Ja,SqL.of Eu,atI_nat (j:=0) rfl,a1,_,_,_,Ja,Ja,jZ,atI_nat (j:=0) rfl,_,Ja,B,_,_,_,Ja,Ja,SqL.of Cc,atI_nat (j:=0) rfl,a2,_,_,_,Ja,Ja,dM,atI_nat (j:=0) rfl,e1.enc,e2.enc,i7,jC,Lad.aH (by omega),Lad.aH (by omega),_,Ja,?_⟩;rw [Lad.bc];by_cases he:e1=e2
 ·subst he;rw [Ya rfl];rw [if_pos rfl] at AX;refine iteT ?_;refine ⟨_,Ja,.inl ⟨rfl,_,SqL.of eQ⟩,_,Ja,A,_,_,_,Ja,Ja,SqL.of Eu,atI_nat (j:=0) rfl,a1,_,_,_,Ja,Ja,jZ,atI_nat (j:=0) rfl,?_⟩;have zA:(V.ref a1::ls2).length=ls2.length+1:=rfl;have zB:(V.ref a2::oC).length=oC.length+1:=rfl;refine ⟨_,Ja,.inl ⟨rfl,_,SqL.of Eu⟩,A,_,_,0,.ref a1,Ja,Ja,Eu,by omega,by omega,by rw [PySem.seqIndex_of (by omega) (by omega)]; rfl,rfl,?_⟩;have t6:=SB.set (ps:=[A]) Eu (by simp) (.lst ls2);have Et:upd G5 A (.lst ls2) A=some (.lst ls2):=Qt;have Bj:=t6.keep _ _ Cc (by simpa using fun z:B=A=>AB z.symm);have ie:=t6.keep _ _ eQ (by simpa using DA);rw [show ((V.ref a1::ls2).eraseIdx 0)=ls2 from rfl];generalize upd G5 A _=G6 at t6 Et Bj ie;refine ⟨a1,_,_,_,Ja,Ja,t6.aL jZ,atI_nat (j:=1) rfl,?_⟩;refine ⟨_,Ja,.inl ⟨rfl,_,SqL.of Bj⟩,B,_,_,0,.ref a2,Ja,Ja,Bj,by omega,by omega,by rw [PySem.seqIndex_of (by omega) (by omega)]; rfl,rfl,?_⟩;have t7:=SB.set (ps:=[B]) Bj (by simp) (.lst oC);have Cb:upd G6 B (.lst oC) B=some (.lst oC):=Qt;have Cd:=t7.keep _ _ Et (by simpa using AB);have tj:=t7.keep _ _ ie (by simpa using DB);rw [show ((V.ref a2::oC).eraseIdx 0)=oC from rfl];generalize upd G6 B _=G7 at t7 Cb Cd tj;refine ⟨a2,_,_,_,Ja,Ja,t7.aL (t6.aL dM),atI_nat (j:=1) rfl,_,_,Ja,Ja,?_⟩;refine ⟨dY,fun T nT=>?_⟩;have t8:=Jb nT (.tup [u1,.int (m1+m2)]);have KL:=iV (K:=K) t8;have ZF:=t8.keep _ _ Cd aP;have ZC:=t8.keep _ _ Cb aP;have Ts:=t8.keep _ _ tj aP;generalize upd G7 T _=G8 at t8 KL ZF ZC Ts;have ID:SB [D,A,B] G5 G8:=((t6.mono (by simp)).trans (t7.mono (by simp))).trans t8.nil;refine ⟨D,_,_,Ja,Ja,Ts,by omega,?_⟩;have t9:=SB.set (ps:=[D]) Ts (by simp) (.lst (fs++[.ref T]));have lB:SB [D,A,B] G5 _:=ID.trans (t9.mono (by simp));refine ⟨_,?_,F++[(e1,m1+m2)],L2,R2,fs++[.ref T],ls2,oC,Ja,s5.trans lB,Ja,Qt,t9.keep _ _ ZF (by simpa using fun z:A=D=>DA z.symm),t9.keep _ _ ZC (by simpa using fun z:B=D=>DB z.symm),(Gh.sb lB Lad.af).append (.cons (Dp.tup (t9.aL KL) (.cons (LA.sb i7 lB) (.cons (.int _) .nil))) .nil),qH.sb lB Lad.af,vF.sb lB Lad.af,?_,?_,Ld2,Rd2⟩
  ·rw [Jl,Jk]; omega
  ·rw [AX,List.append_assoc]; rfl
  ·rw [Yf,Yi]; omega
 ·rw [Qz he];rw [if_neg he] at AX;refine iteF ?_;refine ⟨_,Ja,A,_,_,_,Ja,Ja,SqL.of Eu,atI_nat (j:=0) rfl,a1,_,_,_,Ja,Ja,jZ,atI_nat (j:=0) rfl,_,Ja,B,_,_,_,Ja,Ja,SqL.of Cc,atI_nat (j:=0) rfl,a2,_,_,_,Ja,Ja,dM,atI_nat (j:=0) rfl,u1,u2,e1,e2,Ja,i7,jC,by omega,by omega,by omega,fun G6 s6=>?_⟩;have zA:(V.ref a1::ls2).length=ls2.length+1:=rfl;have zB:(V.ref a2::oC).length=oC.length+1:=rfl;have Et:=s6.keep _ _ Eu aP;have Bj:=s6.keep _ _ Cc aP;have ie:=s6.keep _ _ eQ aP;cases dZ:e1.lt e2 with
  | true =>
   rw [if_pos dZ] at AX;refine ⟨_,Ja,iteT ?_⟩;refine ⟨_,Ja,.inl ⟨rfl,_,SqL.of ie⟩,_,Ja,.inl ⟨rfl,_,SqL.of Bj⟩,B,_,_,0,.ref a2,Ja,Ja,Bj,by omega,by omega,by rw [PySem.seqIndex_of (by omega) (by omega)]; rfl,rfl,?_⟩;have t7:=SB.set (ps:=[B]) Bj (by simp) (.lst oC);have Cb:upd G6 B (.lst oC) B=some (.lst oC):=Qt;have Cd:=t7.keep _ _ Et (by simpa using AB);have tj:=t7.keep _ _ ie (by simpa using DB);rw [show ((V.ref a2::oC).eraseIdx 0)=oC from rfl];generalize upd G6 B _=G7 at t7 Cb Cd tj;have sX:SB [D,A,B] G5 G7:=s6.nil.trans (t7.mono (by simp));refine ⟨D,_,_,Ja,Ja,tj,by omega,?_⟩;have t9:=SB.set (ps:=[D]) tj (by simp) (.lst (fs++[.ref a2]));have lB:SB [D,A,B] G5 _:=sX.trans (t9.mono (by simp));refine ⟨_,?_,F++[(e2,m2)],(e1,m1)::L2,R2,fs++[.ref a2],.ref a1::ls2,oC,Ja,s5.trans lB,Ja,Qt,t9.keep _ _ Cd (by simpa using fun z:A=D=>DA z.symm),t9.keep _ _ Cb (by simpa using fun z:B=D=>DB z.symm),(Gh.sb lB Lad.af).append (.cons (cI lB _ _ (Lad.af _) hv2) .nil),.cons (cI lB _ _ (Lad.af _) hv1) (qH.sb lB Lad.af),vF.sb lB Lad.af,?_,?_,Ld,Rd2⟩
   ·rw [Jl,Jk]; omega
   ·rw [AX,List.append_assoc]; rfl
   ·rw [Yf,Yi,Jl]; omega
  | false =>
   rw [if_neg (by rw [dZ]; simp)] at AX;refine ⟨_,Ja,iteF ?_⟩;refine ⟨_,Ja,.inl ⟨rfl,_,SqL.of ie⟩,_,Ja,.inl ⟨rfl,_,SqL.of Et⟩,A,_,_,0,.ref a1,Ja,Ja,Et,by omega,by omega,by rw [PySem.seqIndex_of (by omega) (by omega)]; rfl,rfl,?_⟩;have t7:=SB.set (ps:=[A]) Et (by simp) (.lst ls2);have Cd:upd G6 A (.lst ls2) A=some (.lst ls2):=Qt;have Cb:=t7.keep _ _ Bj (by simpa using fun z:B=A=>AB z.symm);have tj:=t7.keep _ _ ie (by simpa using DA);rw [show ((V.ref a1::ls2).eraseIdx 0)=ls2 from rfl];generalize upd G6 A _=G7 at t7 Cd Cb tj;have sX:SB [D,A,B] G5 G7:=s6.nil.trans (t7.mono (by simp));refine ⟨D,_,_,Ja,Ja,tj,by omega,?_⟩;have t9:=SB.set (ps:=[D]) tj (by simp) (.lst (fs++[.ref a1]));have lB:SB [D,A,B] G5 _:=sX.trans (t9.mono (by simp));refine ⟨_,?_,F++[(e1,m1)],L2,(e2,m2)::R2,fs++[.ref a1],ls2,.ref a2::oC,Ja,s5.trans lB,Ja,Qt,t9.keep _ _ Cd (by simpa using fun z:A=D=>DA z.symm),t9.keep _ _ Cb (by simpa using fun z:B=D=>DB z.symm),(Gh.sb lB Lad.af).append (.cons (cI lB _ _ (Lad.af _) hv1) .nil),qH.sb lB Lad.af,.cons (cI lB _ _ (Lad.af _) hv2) (vF.sb lB Lad.af),?_,?_,Ld2,Rd⟩
   ·rw [Jl,Jk]; omega
   ·rw [AX,List.append_assoc]; rfl
   ·rw [Yf,Yi,Jk]; omega
abbrev ME:List Str:=[aD,au,"_law_first","_law_kept","_law_pair"]
theorem rO:FnScope ME [aD,au] (defScope v9):=fS
theorem zjr (B:BI mg) (Bt:Got P w K mg base eX [aD,au] (41) (PZ K)) (j4:Got P w K mg base bL [aD,au] (40) (xR K 40)) (Bu:Got P w K mg base cV [aD,au] (41) (QE K)) (F:Fun K ft ft v9 f fd):FnOk P w K mg base CX0 (42) f fd [aD,au] (WD K):=by
 refine F.ok rO (fun vs H Q E h=>?_) (fun _ A _ s H vs Q E hr h=>?_)
 ·obtain ⟨v,u,l,k,rfl,_⟩:=h
  rfl
 obtain ⟨v,u,l,k,rfl,hv,hu,hl,hk,hd,hd2,hp,eT,q⟩:=h;have bA:=bt hr;refine ⟨_,Qc (Qr (pt_cmpR (op_eqD (ig hr)) (pv 1) (Ka Qb) (nomark _)) (Qe (Qj (aT Bt (Hm hr) rfl (Qa (pv 0) (Qa (Ka (Qa (Ka (Qa (Ka Qb) (Qa Qg Qb))) Qb)) Qb))))) pss_nil)
  (Qc (ps_set (i:=2) rO.nd rfl (.inr rfl) (Qm Ql (Qm Ql (pv 1) Qg (fun _ _=>rfl)) Qg (fun _ _=>rfl)))
  (Qc (ps_set (i:=3) rO.nd rfl (.inl rfl) (pe_callTy call_tuple_of rfl B.tuple boot_tuple (Qa (pe_lc (own:=[("_law_pair",4)]) (g:=(gName 4)) (tt:=(tB (tCall (xR K 40) [] E0 (tCons (tVar 2) (tCons (tOp (rIxT K) (tVar 4) (tC (.int 0))) tNil))))) (te:=(tVar 4)) rfl rO.nd (pi_tup (pv 0)) (blkOk_by (N:=ME) (sc:=defScope v9) (by decide +kernel)) (fun _ _ _ _ _=>(pg_name (i:=4) rO.nd rfl (.inl rfl))) (fun _ _ _ _ _=>(pts_one (Qo (aT j4 (Hm hr) rfl (Qa (pv 2) (Qa (Qm Ql (pv 4) Qg (fun _ _=>rfl)) Qb)))))) (fun _ _ _ _ _=>(pv 4))) Qb)))
  (Qe (Qj (aT Bt (Hm hr) rfl (Qa (pv 3) (Qa (Ka (Qa (Ka (Qa (aT Bu (Hm hr) rfl (Qa (pv 2) (Qa (Ka (Qa (Ka (Qa (Ka Qb) (Qa Qg Qb))) Qb)) Qb))) (Qa Qg Qb))) Qb)) Qb))))))),?_⟩
 have jy:=sizeLine_eq;obtain ⟨a,xs,rfl,iq,gH⟩:=lz hv;obtain ⟨b,ys,rfl,hY,gG⟩:=lz hu;have xl:=gH.length;have lp:=l.aF;rw [<- Lad.bB] at lp;refine ⟨_,Ja,Z0,fun z nz=>?_⟩;have t1:=Jb nz (.tup []);have mT:=eZ t1;generalize upd H z _=H1 at t1 mT;refine ⟨k.enc,Lad.enc .nil,LA.sb hu t1,Bx (SqT.of mT),Lad.aH (by omega),Lad.aH (by decide),_,Ja,?_⟩;rw [Lad.bc];cases k with
 | nil =>
  refine iteT ⟨_,Ja,?_⟩;refine GK (PQ (K:=K) fun x1 H2 s2 lO=>?_);refine ⟨.ref a,x1,l,Lad.cT,Ja,LA.sb (LA.sb hv t1) s2,lO,by omega,by decide,by omega,by decide,fun x H3 s3 hx=>q x H3 ((t1.trans s2).trans s3) (by rw [Lad.qh hl Lad.R.cT] at hx; exact hx)⟩
 | cons e m r =>
  refine iteF ?_;rw [show (Lad.cons e m r).ps=(e,m)::r.ps from rfl] at gG;cases gG with
  | @cons y0 yr _ _ h0 hbr =>
  obtain ⟨c,ue,rfl,oN,hle⟩:=nG h0;have ed:e.deep < (Lad.cons e m r).deep:=Lad.av (.cons e m r) (e,m) (bM ..);have ept:e.parts<=(Lad.cons e m r).parts:=by show e.parts<=1+e.parts+r.parts; omega
  refine ⟨_,Ja,b,_,_,.ref c,Ja,Ja,t1.aL hY,atI_nat (j:=0) rfl,c,_,_,ue,Ja,Ja,t1.aL oN,atI_nat (j:=0) rfl,?_⟩;refine ⟨_,Ja,a,Ja,⟨xs,t1.aL iq⟩,fun D nD=>?_⟩;refine oo (walk_tup (xs:=xs)) nD (by omega) (fun i ws H2=>Bears K H2 Lad.aB ws ((l.ps.take i).filter fun p=>e.lt p.1)) .nil (fun H2 s2=>(t1.trans s2).aL iq) (fun _ _ _ _ s h=>h.sb s Lad.af) (fun Pv i x Hq H2 ws hi s2 y hR DL fin skip=>?_) (fun ws H3 s3 bH hR DL=>?_)
  ·obtain ⟨rfl,ey⟩:=y;obtain ⟨p,ep,fz⟩:=gH.get ey;obtain ⟨ad,ux,rfl,dM,xb⟩:=nG fz;have jz:=t1.trans s2;have pd:=l.av p (Qu ep);refine ⟨rfl,?_⟩;refine ⟨_,Ja,_,Ja,ad,_,_,ux,Ja,Ja,jz.aL dM,atI_nat (j:=0) rfl,ue,ux,e,p.1,Ja,LA.sb hle jz,LA.sb xb jz,by omega,by omega,by omega,fun H4 s4=>⟨_,Ja,?_⟩⟩;have e0:(l.ps.take (i+1)).filter (fun p=>e.lt p.1)=(l.ps.take i).filter (fun p=>e.lt p.1)++(if e.lt p.1=true then [p] else []):=by
    rw [Yg,ep,List.filter_append];cases hc:e.lt p.1 <;> simp [hc]
   cases hc:e.lt p.1 with
   | true =>
    refine iteT ⟨_,Ja,fin _ _ s4 ?_⟩;rw [e0,if_pos hc];exact (hR.sb s4 Lad.af).append (.cons (cI (jz.trans s4) _ _ (Lad.af _) fz) .nil)
   | false =>
    refine iteF (skip _ s4 ?_);rw [e0,if_neg (by simp [hc]),Kz];exact hR.sb s4 Lad.af
  rw [xl,Yh] at hR;have hO:=t1.trans s3;refine ⟨D,ws,Ja,.inl ⟨SqL.of bH,fun kt Ad=>?_⟩⟩;have s5:=Jb Ad (.tup ws);have kept:LA K (upd H3 kt (.tup ws)) (.ref kt) (Lad.ofPs (l.ps.filter fun p=>e.lt p.1)):=BD (SqT.of Qt) (hR.sb s5 Lad.af);have kq:=hO.trans s5;generalize upd H3 kt _=H5 at s5 kept kq;refine ⟨_,Ja,?_⟩;refine GK (tupI (GK (tupI (GK ⟨_,Ja,GK (PQ (K:=K) fun x1 H6 s6 lO=>?_)⟩))));have eo:=hk.exp;refine ⟨ue,x1,e,Lad.cT,Ja,LA.sb (LA.sb hle kq) s6,lO,by omega,by decide,by omega,by decide,fun x2 H7 s7 lu=>?_⟩;have bo:=eo.gU Lad.R.cT;have fo:Lad.R (Lad.ofPs (l.ps.filter fun p=>e.lt p.1)):=by
   obtain ⟨B,hB,hb⟩:=hl;exact ⟨B,hB,Lad.oX hb _⟩
  have b1:=Lad.gS e Lad.cT;have b2:=Lad.iP (n:=29) (l:=e) (k:=Lad.cT) (by omega) (by decide);have b3:=Lad.gZ l fun p=>e.lt p.1;have b4:Lad.cT.parts=1:=rfl;refine ⟨dY,fun t8 RA=>?_⟩;have s8:=Jb RA (.tup [x2,.int 1]);have Ju:=eZ s8;generalize upd H7 t8 _=H8 at s8 Ju;refine ⟨lH,fun t9 Rz=>?_⟩;have s9:=Jb Rz (.tup [.ref t8]);have lB:=((s6.trans s7).trans s8).trans s9;refine ⟨.ref kt,.ref t9,_,.cons (Lad.gU e Lad.cT) 1 .nil,Ja,LA.sb kept lB,HV (SqT.of Qt) (s9.aL (SqT.of Ju)) (LA.sb lu (s8.trans s9)),Yb (Lad.iO _ hd) (by decide),by show max (1+(Lad.gU e Lad.cT).deep) 0<=30; omega,by omega,by show 1+(Lad.gU e Lad.cT).parts+0<=4000000; omega,fun x H' Aw hx=>q x H' ((kq.trans lB).trans Aw) (by rw [Lad.qh fo bo.pow] at hx; exact hx)⟩
abbrev zkf:List Str:=[ay,br,bV,bE,"_law_once","_law_each","_law_more"]
theorem kL:FnScope zkf [ay,br,bV] (defScope GZ):=fS
theorem zi3 (B:BI mg) (UN:Got P w K mg base ft [aD,au] (42) (WD K)) (ny:Got P w K mg base cw [ay,br,ao] (n+43) (Bw K n)) (j4:Got P w K mg base bL [aD,au] (40) (xR K 40)) (F:Fun K fY fY GZ f fd):FnOk P w K mg base CX0 (n+44) f fd [ay,br,bV] (NO K (n+1)):=by
 refine F.ok kL (fun vs H Q E h=>?_) (fun _ A _ _ H vs Q E hr h=>?_)
 ·obtain ⟨d,e,k,b,ρ,ns,ms,lv,rfl,_⟩:=h
  rfl
 obtain ⟨d,e,k,b,ρ,ns,ms,lv,rfl,hd,de,R,M,hk,hn,q⟩:=h;have bA:=bt hr;refine ⟨_,Qc (Qr (pt_cmp (pc_dnotin (u1 hr) (pv 2) (pv 1))) (Qc (ps_set (i:=3) kL.nd rfl (.inl rfl) (Ka (Qa (Ka (Qa (Ka Qb) (Qa Qg Qb))) Qb)))
  (Qc (ps_for PassesOwn.never rfl (pi_list (Qm Ql (pe_dget (u1 hr) (pv 0) (pv 2) (fun _ _=>rfl)) Qg (fun _ _=>rfl))) (pg_tup rfl (Qi (pg_name (i:=4) kL.nd rfl (.inl rfl)) (Qi (pg_name (i:=5) kL.nd rfl (.inl rfl)) pgs_nil)))
   (Qc (ps_set (i:=6) kL.nd rfl (.inl rfl) (aT UN (Hm hr) rfl (Qa (aT ny (Hm hr) rfl (Qa (pv 0) (Qa (pv 1) (Qa (pv 4) Qb)))) (Qa (aT ny (Hm hr) rfl (Qa (pv 0) (Qa (pv 1) (Qa (pv 5) Qb)))) Qb))))
  (Qe (Qr (Qo (aT j4 (Hm hr) rfl (Qa (pv 3) (Qa (pv 6) Qb)))) (Qe (ps_set (i:=3) kL.nd rfl (.inl rfl) (pv 6))) pss_nil))))
  (Qe (ps_dput (u1 hr) (pv 1) (pv 2) (pv 3) rfl)))) pss_nil)
  (Qe (Qj (pe_dget (u1 hr) (pv 1) (pv 2) (fun _ _=>rfl)))),?_⟩
 have n8:=R.len;by_cases hm:k ∈ ms
 ·obtain ⟨u,hu,zZ⟩:=M.at_.val hm;refine ⟨_,Ja,_,Ja,e,_,Ja,hu,_,Ja,iteF ?_⟩;exact ⟨_,Ja,_,Ja,e,u,Ja,hu,q u H ms SB.refl M (fun m h=>.inl h) zZ⟩
 obtain ⟨kd,eg⟩:=R.get k hk;refine ⟨_,Ja,_,Ja,e,_,Ja,M.at_.none hm,_,Ja,iteT ?_⟩;refine C9 (EF (PQ (K:=K) fun x1 H1 s1 lO=>?_));refine cJ ?_;have sA:=hd.ef s1;have M1:=M.ef s1;obtain ⟨v,hv,t,l,zs,rfl,ht,hl,hb⟩:=sA.val eg;have zl:=hb.length;have le:l ≠ e:=fun z=>by
  obtain ⟨aS,h⟩:=M1.DI;rw [z,h] at hl; cases hl
 have nE:∀ H2,SB [e] H1 H2->vU K H2 d b:=fun H2 s2=>sA.sb s2 (by simpa using de) (by obtain ⟨aS,h⟩:=M1.DI; exact kr.one h);refine ⟨_,Ja,_,Ja,d,_,Ja,hv,t,_,_,_,Ja,Ja,ht,atI_nat (j:=1) rfl,l,Ja,⟨zs,SqL.of hl⟩,?_⟩;refine for_it (walk_list (xs:=zs)) (fun i σ H2=>SB [e] H1 H2/\∃ (f:V) (wz:List Str) (o4 o5 o6:Option V),σ=[some (.ref d),some (.ref e),some (.str k),some f,o4,o5,o6]/\Memo K H2 e ρ ns wz/\(∀ m ∈ wz,m ∈ ms\/lv m < lv k)/\LA K H2 f (Lad.eI Lad.cT ((kd.rs.take i).map (gI b ρ))))
  ⟨SB.refl,x1,ms,none,none,none,rfl,M1,fun m h=>.inl h,lO⟩ (fun i σ H2 hi h=>h.1.fO (by simpa using le) (SqL.of hl)) (fun i x σ H2' H2 hi h y=>?_) (fun σ H2 h=>?_)
 ·obtain ⟨s2,f,wz,o4,o5,o6,rfl,M2,BW,hf⟩:=h;obtain ⟨rfl,ey⟩:=y;obtain ⟨r,er,Jz⟩:=hb.get ey;have rm:=Qu er;obtain ⟨⟨f1,g1⟩,f2,g2⟩:=R.rl k hk kd eg r rm;obtain ⟨ij,rn1,rn2⟩:=R.nm k hk kd eg r rm;have ZW:=R.down k hk kd eg r rm;have rp:=ij.2.2;have rd1:=pJ r.1;have rd2:=pJ r.2;cases cI s2 _ _ (Ru.aj _) Jz with
  | @tup ad tK _ vo hda =>
  cases hda with
  | cons BY hda =>
  cases hda with
  | cons Eb hda =>
  cases hda;have BY:GA K _ _ r.1:=BY;have Eb:GA K _ _ r.2:=Eb;refine ⟨ad,_,Ja,vo,Ja,_,_,Ja,_,_,Ja,Ja,?_⟩;refine ⟨_,Ja,_,Ja,_,Ja,d,e,_,b,ρ,ns,wz,lv,r.1,1000000001,lv k,Ja,nE _ s2,de,R,M2,⟨BY,ij.1,f1,by omega,by omega⟩,fun x hx=>ZW x (List.mem_append.mpr (.inl hx)),by omega,fun x2 H3 RP s3 M3 h3 lu=>?_⟩;refine ⟨_,Ja,_,Ja,_,Ja,d,e,_,b,ρ,ns,RP,lv,r.2,1000000001,lv k,Ja,nE _ (s2.trans s3),de,R,M3,⟨Eb.sb s3,ij.2.1,f2,by omega,by omega⟩,fun x hx=>ZW x (List.mem_append.mpr (.inr hx)),by omega,fun x3 H4 F3 s4 M4 h4 xG=>?_⟩;have R1:=Gr.vT (b:=b) R.toGoods ij.1 rn1;have R2:=Gr.vT (b:=b) R.toGoods ij.2.1 rn2;have d1:=g1.deep;have d2:=g2.deep;have p1:=g1.parts;have p2:=g2.parts;refine ⟨x2,x3,_,_,Ja,lu.sb s4,xG,R1,R2,by omega,by omega,by omega,by omega,fun x4 H5 s5 xF=>?_⟩;refine cJ ?_;have FV:=(s3.trans s4).trans s5.nil;have mem:∀ m ∈ F3,m ∈ ms\/lv m < lv k:=fun m Ss=>by
   rcases h4 m Ss with z | z
   ·rcases h3 m z with z | z
    ·exact BW m z
    ·exact .inr z
   ·exact .inr z
  have dm:(Lad.eI Lad.cT ((kd.rs.take i).map (gI b ρ))).deep<=30:=by
   rcases Qv (Lad.iJ ((kd.rs.take i).map (gI b ρ)) Lad.cT) with z | z
   ·rw [z]; decide
   ·obtain ⟨r',hr',e'⟩:=Qx z;rw [<- e'];obtain ⟨⟨_,g1⟩,_,g2⟩:=R.rl k hk kd eg r' (List.mem_of_mem_take hr');exact Lad.ni (n:=30) g1.deep g2.deep (by decide)
  have da:((Gr.rk b ρ r.1).tu (Gr.rk b ρ r.2)).deep<=30:=Lad.ni (n:=30) g1.deep g2.deep (by decide);have step:Lad.eI Lad.cT ((kd.rs.take (i+1)).map (gI b ρ))=if (Lad.eI Lad.cT ((kd.rs.take i).map (gI b ρ))).lt (gI b ρ r)=true then gI b ρ r else Lad.eI Lad.cT ((kd.rs.take i).map (gI b ρ)):=by
   rw [Yg,er,Yj];exact Lad.wB _ _ _
  refine ⟨_,Ja,_,Ja,f,x4,_,_,Ja,hf.sb FV,xF,by omega,by omega,by omega,fun H6 s6=>⟨_,Ja,?_⟩⟩;have Oy:=(s2.trans FV).trans s6.nil;by_cases dZ:(Lad.eI Lad.cT ((kd.rs.take i).map (gI b ρ))).lt (gI b ρ r)=true
  ·have D0:(Lad.eI Lad.cT ((kd.rs.take i).map (gI b ρ))).lt ((Gr.rk b ρ r.1).tu (Gr.rk b ρ r.2))=true:=dZ;rw [D0];refine iteT ⟨_,Ja,cJ ?_⟩;refine ⟨Oy,x4,F3,_,_,_,Ja,(M4.ef s5).ef s6,mem,?_⟩;rw [step,if_pos dZ];exact xF.sb s6
  ·have D0:(Lad.eI Lad.cT ((kd.rs.take i).map (gI b ρ))).lt ((Gr.rk b ρ r.1).tu (Gr.rk b ρ r.2))=false:=by
    have z:=dZ;rw [Bool.not_eq_true] at z;exact z
   rw [D0];refine iteF ?_;refine ⟨Oy,f,F3,_,_,_,Ja,(M4.ef s5).ef s6,mem,?_⟩;rw [step,if_neg dZ];exact (hf.sb FV).sb s6
 ·obtain ⟨s2,f,wz,o4,o5,o6,rfl,M2,BW,hf⟩:=h;rw [zl,Yh,<- R.own k hk kd eg] at hf;have qA:k ∉ wz:=fun z=>by
   rcases BW k z with h | h
   ·exact hm h
   ·omega
  obtain ⟨H3,DQ,s3,M3⟩:=M2.put n8 hk qA hf;refine ⟨_,Ja,_,Ja,_,Ja,e,H3,Ja,DQ,?_⟩;obtain ⟨u,hu,zZ⟩:=M3.at_.val (n:=k) (by simp);refine ⟨_,Ja,_,Ja,e,u,Ja,hu,q u H3 _ ((s1.nil.trans s2).trans s3) M3 (fun m h=>?_) zZ⟩;rcases Qw h with z | z
  ·rcases BW m z with z | z
   ·exact .inl z
   ·exact .inr (by omega)
  ·rw [Qy z]; exact .inr (Yc _)
end
theorem za7 (qs:List (Tr × Int)) (p:Tr × Int) (x:Lad):Lad.S (Gr.rk b ρ (Gr.ofPs (qs++[p]))) x=Lad.S (Gr.rk b ρ (Gr.ofPs qs)) x+Lad.S (Lad.dX (Gr.hQ b ρ p.1) p.2) x:=by
 rw [Gr.rR,Gr.rR,Gr.aQ,Gr.aQ,Gr.kY,Gr.kY,Yj,Yj,List.sum_append];simp
section
variable {P:Program} {w:World} {K:Qn} {mg:Str->Option Value} {base:Heap} {f:Addr} {fd:FuncData}
abbrev U4:List Str:=[ay,br,ao,bE,"_law_kind","_law_inner",aM,"_law_here","_law_held","_law_power","_law_so"]
theorem d8:FnScope U4 [ay,br,ao] (defScope Fe):=fS
theorem zis (B:BI mg) (Nm:Got P w K mg base fY [ay,br,bV] (n+43) (NO K n)) (ny:Got P w K mg base cw [ay,br,ao] (n+43) (Bw K n)) (Bu:Got P w K mg base cV [aD,au] (41) (QE K)) (Bt:Got P w K mg base eX [aD,au] (41) (PZ K)) (F:Fun K cw cw Fe f fd):FnOk P w K mg base CX0 (n+44) f fd [ay,br,ao] (Bw K (n+1)):=by
 refine F.ok d8 (fun vs H Q E h=>?_) (fun _ A _ s H vs Q E hr h=>?_)
 ·obtain ⟨d,e,u,b,ρ,ns,ms,lv,g,C,c,rfl,_⟩:=h
  rfl
 obtain ⟨d,e,u,b,ρ,ns,ms,lv,g,C,c,rfl,hd,de,R,M,⟨hg,xN,fit,gd,gp⟩,low,hn,q⟩:=h;have bA:=bt hr;refine ⟨_,Qc (ps_set (i:=3) d8.nd rfl (.inl rfl) (Ka Qb))
  (Qc (ps_for PassesOwn.never rfl (pi_tup (pv 2)) (pg_tup rfl (Qi (pg_tup rfl (Qi (pg_name (i:=4) d8.nd rfl (.inl rfl)) (Qi (pg_name (i:=5) d8.nd rfl (.inl rfl)) pgs_nil))) (Qi (pg_name (i:=6) d8.nd rfl (.inr rfl)) pgs_nil)))
   (Qc (ps_set (i:=7) d8.nd rfl (.inl rfl) (aT Nm (Hm hr) rfl (Qa (pv 0) (Qa (pv 1) (Qa (pv 4) Qb)))))
  (Qc (ps_set (i:=8) d8.nd rfl (.inl rfl) (aT ny (Hm hr) rfl (Qa (pv 0) (Qa (pv 1) (Qa (pv 5) Qb)))))
  (Qc (Qr (PW.pt (Kl (pt_cmpR (op_neD (ig hr)) (pv 8) (Ka Qb) (nomark _)) (pw_and1 (Qo (Qm Ql (pe_dget (u1 hr) (pv 0) (pv 4) (fun _ _=>rfl)) Qg (fun _ _=>rfl)))))) (Qe (ps_set (i:=7) d8.nd rfl (.inl rfl) (Ka (Qa (Ka (Qa (aT Bu (Hm hr) rfl (Qa (Qm Ql (Qm Ql (pv 7) Qg (fun _ _=>rfl)) Qg (fun _ _=>rfl)) (Qa (pv 8) Qb))) (Qa Qg Qb))) Qb)))) (Qe (ps_set (i:=7) d8.nd rfl (.inl rfl) (aT Bu (Hm hr) rfl (Qa (pv 7) (Qa (pv 8) Qb))))))
  (Qe (ps_set (i:=3) d8.nd rfl (.inl rfl) (aT Bt (Hm hr) rfl (Qa (pv 3) (Qa (pe_callTy call_tuple_of rfl B.tuple boot_tuple (Qa (pe_lc (own:=[("_law_power",9),("_law_so",10)]) (g:=(gTup K 2 (gCons (gName 9) (gCons (gName 10) gNil)))) (tt:=tYes) (te:=(tTup (tCons (tVar 9) (tCons (tOp (rI CMulW fun i j=>.int (i*j)) (tVar 10) (tVar 6)) tNil)))) rfl d8.nd (pi_tup (pv 7)) (blkOk_by (N:=U4) (sc:=defScope Fe) (by decide +kernel)) (fun _ _ _ _ _=>(pg_tup rfl (Qi (pg_name (i:=9) d8.nd rfl (.inl rfl)) (Qi (pg_name (i:=10) d8.nd rfl (.inl rfl)) pgs_nil)))) (fun _ _ _ _ _=>pts_nil) (fun _ _ _ _ _=>(Ka (Qa (pv 9) (Qa (pe_op op_mulW (pv 10) (pv 6)) Qb))))) Qb)) Qb)))))))))
  (Qe (Qj (pv 3)))),?_⟩
 have jy:=sizeLine_eq;obtain ⟨a,xs,rfl,hs,hb⟩:=nH hg;have xl:=hb.length;have Ce:=fit.named;refine ⟨Z0,fun z nz=>?_⟩;have t1:=Jb nz (.tup []);have mT:LA K (upd H z (.tup [])) (.ref z) .nil:=Bx (SqT.of Qt);generalize upd H z _=H1 at t1 mT;have nE:∀ H2,SB [e] H H2->vU K H2 d b:=fun H2 s2=>hd.sb s2 (by simpa using de) (by obtain ⟨aS,h⟩:=M.DI; exact kr.one h);have tk:∀ i,(Gr.ofPs (g.ps.take i)).Ok C/\Gr.Named ns (Gr.ofPs (g.ps.take i)):=fun i=>by
  obtain ⟨h1,h2⟩:=Gr.bj.mp xN;refine ⟨Gr.fB.mpr ⟨fun p hp=>h1 p (List.mem_of_mem_take hp),h2.sublist (List.take_sublist _ _)⟩,Gr.aR.mpr fun p hp=>?_⟩;rw [Gr.aQ] at hp;exact Gr.aR.mp Ce p (List.mem_of_mem_take hp)
 have Uy:∀ i,Lad.R (Gr.rk b ρ (Gr.ofPs (g.ps.take i))):=fun i=>Gr.vT (b:=b) R.toGoods (tk i).1 (tk i).2;have sm:=fit.sum;have ptk:∀ i,(Gr.rk b ρ (Gr.ofPs (g.ps.take i))).parts<=900000:=fun i=>by
  rw [Gr.rR,Gr.aQ];refine Yb (Lad.cK _) (Yb ?_ sm);rw [Gr.mu,List.map_map,List.map_map];have e1:g.ps=g.ps.take i++g.ps.drop i:=(List.take_append_drop i g.ps).symm
  conv=>rhs; rw [e1,Yj,List.sum_append]
  omega
 have dtk:∀ i,(Gr.rk b ρ (Gr.ofPs (g.ps.take i))).deep<=30:=fun i=>by
  rw [Gr.rR,Gr.aQ];refine Lad.dG fun l hl=>?_;obtain ⟨p,hp,rfl⟩:=Qx hl;exact Lad.gK _ (fit.at p (List.mem_of_mem_take hp)).1.2.2.2.2.2.1.deep
 refine cJ ?_;refine ⟨_,Ja,a,Ja,⟨xs,t1.aL hs⟩,?_⟩;refine for_it (walk_tup (xs:=xs)) (fun i σ H2=>SB [e] H H2/\∃ (f:V) (wz:List Str) (o4 o5 o6 o7 o8 o9 xC:Option V),σ=[some (.ref d),some (.ref e),some (.ref a),some f,o4,o5,o6,o7,o8,o9,xC]/\Memo K H2 e ρ ns wz/\(∀ m ∈ wz,m ∈ ms\/lv m < c)/\LA K H2 f (Gr.rk b ρ (Gr.ofPs (g.ps.take i))))
  ⟨t1.nil,_,ms,none,none,none,none,none,none,none,rfl,M.ef t1,fun m h=>.inl h,by rw [List.take_zero,show Gr.ofPs []=.nil from rfl,Gr.qd]; exact mT⟩ (fun i σ H2 hi h=>h.1.aL hs) (fun i x σ H2' H2 hi h y=>?_) (fun σ H2 h=>?_)
 ·obtain ⟨s2,f,wz,o4,o5,o6,o7,o8,o9,xC,rfl,M2,BW,hf⟩:=h;obtain ⟨rfl,ey⟩:=y;obtain ⟨p,ep,fz⟩:=hb.get ey;have pm:=Qu ep;have pd:=g.av p pm;have pp:=g.bu p pm;obtain ⟨n1,o1,m1,m2⟩:=Gr.bW xN pm;obtain ⟨⟨f1,f2,f3,f4,f5,f6,f7,f8⟩,f9⟩:=fit.at p pm;obtain ⟨k1,k2⟩:=Gr.aR.mp Ce p pm;obtain ⟨ad,td,ux,rfl,dM,n5,i3,OO⟩:=nP fz;have lk:=low p (Gr.uk pm);refine ⟨ad,_,Ja,s2.aL dM,Ja,_,_,Ja,td,_,Ja,s2.aL n5,Ja,_,_,Ja,_,_,Ja,Ja,_,_,Ja,Ja,?_⟩;refine ⟨_,Ja,_,Ja,_,Ja,d,e,p.1.1,b,ρ,ns,wz,lv,Ja,nE _ s2,de,R,M2,k1,by omega,fun x1 H3 RP s3 M3 h3 lO=>?_⟩;refine cJ ?_;have sZ:=s2.trans s3;refine ⟨_,Ja,_,Ja,_,Ja,d,e,ux,b,ρ,ns,RP,lv,p.1.2,C,c,Ja,nE _ sZ,de,R,M3,⟨GA.sb i3 sZ,o1,f9,by omega,by omega⟩,fun x hx=>low x (Gr.tJ pm hx),by omega,fun x2 H4 F3 s4 M4 h4 lu=>?_⟩;refine cJ ?_;have sY:=sZ.trans s4;have mem:∀ m ∈ F3,m ∈ ms\/lv m < c:=fun m Ss=>by
   rcases h4 m Ss with z | z
   ·rcases h3 m z with z | z
    ·exact BW m z
    ·exact .inr (by omega)
   ·exact .inr z
  have AU:=lO.sb s4;obtain ⟨kd,eg⟩:=R.get p.1.1 k1;have Js:b.wide p.1.1=kd.w:=Bk.rC eg;refine Fx (fun σ' G=>∃ x3:V,σ'=[some (.ref d),some (.ref e),some (.ref a),some f,some (.str p.1.1),some ux,some (.int p.2),some x3,some x2,o9,xC]/\SB [] H4 G/\LA K G x3 (Gr.hQ b ρ p.1)) (fun nx oO=>?_) (fun σ' G h=>?_)
  ·refine ⟨_,Ja,Z0,fun z5 Du=>?_⟩;have t5:=Jb Du (.tup []);have xE:LA K (upd H4 z5 (.tup [])) (.ref z5) .nil:=Bx (SqT.of Qt);generalize upd H4 z5 _=H5 at t5 xE;refine ⟨(Gr.rk b ρ p.1.2).enc,Lad.enc .nil,LA.sb lu t5,xE,Lad.aH (Yb f5.deep (by decide)),Lad.aH (by decide),_,Ja,?_⟩;rw [Lad.bc];by_cases h0:Gr.rk b ρ p.1.2=.nil
   ·rw [Ya h0];refine iteF ?_;refine ⟨_,Ja,_,Ja,x1,x2,ρ p.1.1,Gr.rk b ρ p.1.2,Ja,AU.sb t5,lu.sb t5,Yb f4.deep (by decide),Yb f5.deep (by decide),Yb f4.parts (by decide),Yb f5.parts (by decide),fun x3 H6 s6 xG=>?_⟩;refine cJ ?_;refine oO _ _ ⟨x3,Ja,t5.trans s6,?_⟩;have:Gr.hQ b ρ p.1=(ρ p.1.1).gU (Gr.rk b ρ p.1.2):=by
     show fc _ _ _=_;rw [show Gr.rk b ρ p.1.2=.nil from h0,Lad.fU];exact Lad.ql f3
    rw [this]; exact xG
   ·rw [Qz h0];refine iteT ?_;obtain ⟨vv,R8,t,l,zs,rfl,ht,hl,gG⟩:=(nE _ (sY.trans t5.nil)).val eg;refine ⟨_,Ja,_,Ja,d,_,Ja,R8,t,_,_,_,Ja,Ja,ht,atI_nat (j:=0) rfl,_,Ja,?_⟩;cases hk:kd.w with
    | false =>
     refine iteF ?_;refine ⟨_,Ja,_,Ja,x1,x2,ρ p.1.1,Gr.rk b ρ p.1.2,Ja,AU.sb t5,lu.sb t5,Yb f4.deep (by decide),Yb f5.deep (by decide),Yb f4.parts (by decide),Yb f5.parts (by decide),fun x3 H6 s6 xG=>?_⟩;refine cJ ?_;refine oO _ _ ⟨x3,Ja,t5.trans s6,?_⟩;have:Gr.hQ b ρ p.1=(ρ p.1.1).gU (Gr.rk b ρ p.1.2):=by
      show fc _ _ _=_;unfold fc;rw [Js,hk]; rfl
     rw [this]; exact xG
    | true =>
     refine iteT ?_;have fd:=f4.deep;have fp:=f4.parts;have fl:Gr.hQ b ρ p.1=Lad.spd (ρ p.1.1) (Gr.rk b ρ p.1.2):=by
      show fc _ _ _=_;unfold fc;rw [Js,hk]; rfl
     cases ho:ρ p.1.1 with
     | nil=>exact absurd ho f3
     | cons e0 m0 r0 =>
     rw [ho] at AU fd fp fl;rw [Lad.jK h0] at fl;obtain ⟨ha,R4,rfl,vn,Km⟩:=lz (AU.sb t5);rw [show (Lad.cons e0 m0 r0).ps=(e0,m0)::r0.ps from rfl] at Km;cases Km with
     | @cons y0 yr _ _ hh0 hbr =>
     obtain ⟨cc,ue,rfl,oN,hle⟩:=nG hh0;have ed:e0.deep < (Lad.cons e0 m0 r0).deep:=Lad.av (.cons e0 m0 r0) (e0,m0) (bM ..);have ept:e0.parts<=(Lad.cons e0 m0 r0).parts:=by show e0.parts<=1+e0.parts+r0.parts; omega
     refine ⟨_,Ja,ha,_,_,.ref cc,Ja,Ja,vn,atI_nat (j:=0) rfl,cc,_,_,ue,Ja,Ja,oN,atI_nat (j:=0) rfl,_,Ja,ue,x2,e0,Gr.rk b ρ p.1.2,Ja,hle,lu.sb t5,by omega,Yb f5.deep (by decide),by omega,Yb f5.parts (by decide),fun x3 H6 s6 xG=>?_⟩;refine ⟨dY,fun t8 RA=>?_⟩;have s8:=Jb RA (.tup [x3,.int 1]);have Ju:=eZ s8;generalize upd H6 t8 _=H8 at s8 Ju;refine ⟨lH,fun t9 Rz=>?_⟩;have s9:=Jb Rz (.tup [.ref t8]);refine cJ ?_;refine oO _ _ ⟨.ref t9,Ja,((t5.trans s6).trans s8).trans s9,?_⟩;rw [fl];exact HV (SqT.of Qt) (s9.aL (SqT.of Ju)) (LA.sb xG (s8.trans s9))
  ·obtain ⟨x3,rfl,s5,xG⟩:=h;have FW:=sY.trans s5.nil;obtain ⟨ha,R4,rfl,vn,Km⟩:=lz xG;have D7:=Km.length;have lp:=(Gr.hQ b ρ p.1).aF;rw [<- Lad.bB] at lp;have fp:=f6.parts;refine ⟨_,Ja,_,Ja,ha,Ja,⟨R4,vn⟩,fun D nD=>?_⟩;refine oo (walk_tup (xs:=R4)) nD (by omega) (fun j ws H6=>Bears K H6 Lad.aB ws (((Gr.hQ b ρ p.1).ps.take j).map fun q:Lad × Int=>(q.1,q.2*p.2))) .nil (fun H6 s6=>s6.aL vn) (fun _ _ _ _ s h=>h.sb s Lad.af) (fun Pv j y Hq H6 ws hj s6 yy hR Sb fin skip=>?_) (fun ws H6 s6 ie hR Sb=>?_)
   ·obtain ⟨rfl,TR⟩:=yy;obtain ⟨r,er,Jz⟩:=Km.get TR;have rm:=Qu er;obtain ⟨ar,ur,rfl,BO,hlr⟩:=nG Jz;obtain ⟨Ry,num1⟩:=f6.num r rm;have cm:CMulW r.2 p.2:=by
     have e1:=Fs (x:=r.2) (a:=400000) (b:=400000) (Gr.fx Ry num1) (Yc _) (by decide);have e2:=Fs (x:=p.2) (a:=400000) (b:=400000) (Gr.fx f7 f8) (Yc _) (by decide);unfold CMulW;omega
    refine ⟨ar,_,Ja,s6.aL BO,Ja,_,_,Ja,_,_,Ja,Ja,Ja,?_⟩;refine ⟨_,Ja,_,Ja,_,Ja,_,_,Ja,Ja,cm,dY,fun T nT=>?_⟩;have t7:=Jb nT (.tup [ur,.int (r.2*p.2)]);refine fin _ _ t7 ?_;rw [Yg,er,Yj];exact (hR.sb t7 Lad.af).append (.cons (Dp.tup (SqT.of Qt) (.cons ((LA.sb hlr s6).sb t7) (.cons (.int _) .nil))) .nil)
   ·rw [D7,Yh] at hR;refine ⟨D,ws,Ja,.inl ⟨SqL.of ie,fun kt Ad=>?_⟩⟩;have t7:=Jb Ad (.tup ws);have JL:LA K (upd H6 kt (.tup ws)) (.ref kt) (Lad.dX (Gr.hQ b ρ p.1) p.2):=by
     have z:=BD (SqT.of Qt) (hR.sb t7 Lad.af);have:Lad.dX (Gr.hQ b ρ p.1) p.2=Lad.ofPs ((Gr.hQ b ρ p.1).ps.map fun q:Lad × Int=>(q.1,q.2*p.2)):=by
      unfold Lad.dX;rw [if_neg (by omega)]
     rw [this]; exact z
    generalize upd H6 kt _=H7 at t7 JL;have sX:=s6.trans t7;have pt:=Lad.gJ (Gr.hQ b ρ p.1) p.2;have dt:=Lad.gK (n:=30) p.2 f6.deep;have pi:=ptk i;have di:=dtk i;refine ⟨f,.ref kt,_,_,Ja,((hf.sb (s3.trans s4)).sb s5).sb sX,JL,by omega,by omega,by omega,by omega,fun x4 H8 s8 xF=>?_⟩;refine cJ ?_;refine ⟨(FW.trans sX.nil).trans s8.nil,x4,F3,_,_,_,_,_,_,_,Ja,((M4.ef s5).ef sX).ef s8,mem,?_⟩;have Rt:Lad.R (Gr.hQ b ρ p.1):=Gr.rQ R.toGoods k1 o1 k2;rw [Lad.qh (Uy i) (Rt.dX (by omega))] at xF;have e1:Gr.rk b ρ (Gr.ofPs (g.ps.take (i+1)))=(Gr.rk b ρ (Gr.ofPs (g.ps.take i))).fw (Lad.dX (Gr.hQ b ρ p.1) p.2):=by
     refine Lad.R.ext (Uy (i+1)) ((Uy i).fw (Rt.dX (by omega))) fun x=>?_;rw [Lad.fV,Yg,ep];exact za7 _ _ x
    rw [e1]; exact xF
 ·obtain ⟨s2,f,wz,o4,o5,o6,o7,o8,o9,xC,rfl,M2,BW,hf⟩:=h;rw [xl,Yh,Gr.aC] at hf;exact ⟨_,Ja,q f H2 wz s2 M2 BW hf⟩
abbrev zfi:List Str:=[cP,bE,"_law_tree",aM]
theorem cy:FnScope zfi [cP] (defScope HD):=fS
theorem z62 (B:BI mg) (F:Fun K bD bD HD f fd):FnOk P w K mg base CX0 1 f fd [cP] (Fz K):=by
 refine F.ok cy (fun vs H Q E h=>?_) (fun _ A _ _ H vs Q E hr h=>?_)
 ·obtain ⟨a,xs,bs,rfl,_⟩:=h
  rfl
 obtain ⟨a,xs,as,rfl,hs,gH,hl,⟨C,ho⟩,q⟩:=h;have bA:=bt hr;refine ⟨_,Qc (ps_set (i:=1) cy.nd rfl (.inl rfl) (pe_lst Qb))
  (Qc (ps_for PassesOwn.never rfl (pi_list (Qs (zb5 Gr.aB (by show A.units+3+110 < cLine; omega)) rfl B.sorted (by decide +kernel) (Qa (pv 0) Qb))) (pg_tup rfl (Qi (pg_name (i:=2) cy.nd rfl (.inl rfl)) (Qi (pg_name (i:=3) cy.nd rfl (.inl rfl)) pgs_nil)))
   (Qc (Qr (PW.pt (Kl (pt_cmpR (op_neD (ig hr)) (pv 1) (pe_lst Qb) (nomark _)) (pw_and1 (pt_cmpR (op_eqD (ig hr)) (Qm Ql (Qm ix_list (pv 1) (pe_un un_neg Qg) (fun _ _=>rfl)) Qg (fun _ _=>rfl)) (pv 2) (nomark _)))))
    (Qe (ps_set (i:=3) cy.nd rfl (.inl rfl) (pe_op Ko (pv 3) (Qm Ql (pe_bm0 Ki PySem.F.slot_list_pop PySem.F.type_list_pop mt_pop (pv 1)) Qg (fun _ _=>rfl))))) pss_nil)
   (Qe (Kf (Kn Ki PySem.F.slot_list_append PySem.F.type_list_append mt_append (pv 1) (Qa (Ka (Qa (pv 2) (Qa (pv 3) Qb))) Qb))))))
  (Qe (Qj (pe_callTy call_tuple_of rfl B.tuple boot_tuple (Qa (pv 1) Qb))))),?_⟩
 refine ⟨(Z0),fun D hD=>?_⟩;have t0:=Jb hD (.lst []);have Es:(upd H D (.lst [])) D=some (.lst []):=Qt;generalize hH0:upd H D (.lst [])=H0 at t0 Es;have F9:SqL K H0 a xs\/SqT K H0 a xs:=hs.imp (fun h=>t0.fO aP h) fun h=>t0.aL h;refine ⟨_,Ja,a,_,as,Ja,F9,gH.sb t0 Gr.aa,Gr.jR _,Gr.eG _,by omega,fun p hp=>?_,fun p1 zs gq hz=>?_⟩
 ·have:=Gr.dv p;have:=(ho p hp).2.2;omega
 have s1:=Jb gq (.lst zs);have qU:Bears K (upd H0 p1 (.lst zs)) Gr.aB zs (nV Gr.aB as):=hz.sb s1 Gr.aa;have bH:=s1.keep _ _ Es aP;have yL:SqL K (upd H0 p1 (.lst zs)) p1 zs:=SqL.of Qt;have p1D:p1 ≠ D:=fun z=>by subst z; rw [Es] at gq; cases gq
 generalize hH3:upd H0 p1 (.lst zs)=H3 at s1 qU bH yL;clear hz;generalize uG:nV Gr.aB as=bs at qU;have bok:∀ p ∈ bs,dE p.1.1/\p.1.2.Ok C/\p.1.2.deep<=18:=by
  intro p hp;rw [<- uG] at hp;exact ho p ((zU as).mem_iff.mp hp)
 have yc4:bs.length<=1000:=by rw [<- uG,(zU as).length_eq]; exact hl
 have zl:=qU.length;refine ⟨p1,Ja,⟨zs,yL⟩,?_⟩;refine for_list (K:=K) (a:=p1) (xs:=zs) (fun i σ H2=>SB [D] H3 H2/\∃ acc o2 o3,σ=[some (.ref a),some (.ref D),o2,o3]/\H2 D=some (.lst acc)/\Bears K H2 Gr.aB acc (jn (bs.take i))) ⟨SB.refl,[],none,none,Ja,bH,.nil⟩ (fun i σ H2 hi h2=>h2.1.fO (by simpa using p1D) yL) (fun i x σ H2 hx h2=>?_) (fun σ H2 h2=>?_)
 ·obtain ⟨s2,acc,o2,o3,rfl,aV,bS⟩:=h2;obtain ⟨p,ep,fz⟩:=qU.get hx;have pm:=Qu ep;obtain ⟨ad,tx,ux,rfl,vn,_,_,yO⟩:=nP fz;have al:=bS.length;have jl:=Om (bs.take i);rw [Kx] at jl;rw [PU bs i p ep];have qC:Dp K H2 (.ref tx) (Gr.aG p.1):=cI s2 _ _ (Gr.ax _) yO;refine ⟨ad,_,Ja,s2.aL vn,Ja,_,_,Ja,_,_,Ja,Ja,?_⟩;refine ⟨_,Ja,(Z0),fun e0 OX=>?_⟩;have t3:=SB.new (ps:=[D]) OX (.lst []);have bH:(upd H2 e0 (.lst [])) D=some (.lst acc):=by rw [upd_ne (ne_of_none aV OX)]; exact aV
  have jd:∀ p ∈ jn (bs.take i),dE p.1.1/\p.1.2.Ok C/\p.1.2.deep<=18:=by
   intro p hp;obtain ⟨q2,vq,e2⟩:=By _ p hp;rw [<- e2]; exact bok q2 (List.mem_of_mem_take vq)
  have hZ:=bS.sb t3 Gr.aa;have Eh:=cI t3 _ _ (Gr.ax _) qC;have J0:(upd H2 e0 (.lst [])) e0=some (.lst []):=Qt;generalize hH4:upd H2 e0 (.lst [])=H4 at t3 bH hZ Eh J0;refine ⟨.list ((jn (bs.take i)).map Gr.aB),.list [],Dp.lst (SqL.of bH) hZ.dp,Dp.lst (SqL.of J0) .nil,Gr.rN ⟨C,jd⟩,by decide +kernel,_,Ja,?_⟩;have sY:=s2.trans t3;have app:∀ (us:List V) (js:List (Tr × Int)) (m:Int) (H5:Hp),SB [D] H4 H5->H5 D=some (.lst us)->Bears K H5 Gr.aB us js->us.length<=1000->eY (jn (bs.take i)) p=js++[(p.1,m)] ->
    tDrop (tBM K "list" rAppend (tVar 1) (tCons (tTup (tCons (tVar 2) (tCons (tVar 3) tNil))) tNil)) { nx:=fun σ H2=>SB [D] H3 H2/\∃ acc o2 o3,σ=[some (.ref a),some (.ref D),o2,o3]/\H2 D=some (.lst acc)/\Bears K H2 Gr.aB acc (eY (jn (bs.take i)) p),rt:=Q } [some (.ref a),some (.ref D),some (.ref tx),some (.int m)] H5:=by
   intro us js m H5 s5 eQ yT zZ e;rw [e];refine ⟨_,Ja,.inl ⟨rfl,_,SqL.of eQ⟩,_,Ja,_,Ja,(dY),fun t ht=>?_⟩;have t6:=SB.new (ps:=[D]) ht (.tup [.ref tx,.int m]);have ie:(upd H5 t (.tup [.ref tx,.int m])) D=some (.lst us):=by rw [upd_ne (ne_of_none eQ ht)]; exact eQ
   refine ⟨D,us,_,Ja,Ja,ie,vW (Yb zZ (by decide)),?_⟩;have t7:=SB.set (ps:=[D]) ie (by simp) (.lst (us++[.ref t]));exact ⟨((sY.trans s5).trans t6).trans t7,_,_,_,Ja,Qt,Bears.append ((yT.sb t6 Gr.aa).sb t7 Gr.aa) (.cons (Dp.tup (t7.aL (SqT.of Qt)) (.cons (cI ((s5.trans t6).trans t7) _ _ (Gr.ax _) Eh) (.cons (.int _) .nil))) .nil)⟩
  rcases List.eq_nil_or_concat (jn (bs.take i)) with he | ⟨js,z,he⟩
  ·rw [he] at hZ app;rw [he];cases hZ;refine iteF (iteF ?_);exact app [] [] p.2 H4 SB.refl bH .nil (by simp) rfl
  ·rw [List.concat_eq_append] at he;rw [he] at hZ app jd;rw [he];obtain ⟨us,u,rfl,Jt,hu⟩:=hZ.snoc;obtain ⟨az,tz,uz,rfl,oL,_,_,J2⟩:=nP hu;obtain ⟨zn,zo,zd⟩:=jd z (by simp);obtain ⟨pn,po,pd⟩:=bok p pm;have e0:(!PyData.eqv (.list ((js++[z]).map Gr.aB)) (.list []))=true:=by
    cases js <;> simp [PyData.eqv,PyData.eqvAll]
   rw [e0];refine iteT ?_;refine ⟨_,Ja,1,Ja,D,_,_,_,Ja,Ja,SqL.of bH,Ig,az,_,_,_,Ja,Ja,oL,atI_nat (j:=0) rfl,_,Ja,Gr.aG z.1,Gr.aG p.1,J2,Eh,Gr.lg zn zo (by omega),Gr.lg pn po (by omega),_,Ja,?_⟩;rw [Orderly.eq (enc:=Gr.aG)];have ul:us.length<=1000:=by rw [Yf] at al; omega
   by_cases hz:z.1=p.1
   ·rw [show decide (z.1=p.1)=true by simp [hz]];refine iteT ?_;refine ⟨_,Ja,_,Ja,.inl ⟨rfl,_,SqL.of bH⟩,D,_,_,Ja,Ja,bH,(by simp:(us++[V.ref az])[(us++[V.ref az]).length-1]?=some (V.ref az)),?_⟩;have ed:(us++[V.ref az]).dropLast=us:=by simp
    rw [ed];have t6:=SB.set (ps:=[D]) bH (by simp) (.lst us);refine ⟨az,_,_,_,Ja,Ja,t6.aL oL,atI_nat (j:=1) rfl,_,_,Ja,Ja,?_⟩;refine app us js (p.2+z.2) _ t6 Qt (Jt.sb t6 Gr.aa) ul ?_;rw [pI,if_pos hz,Int.add_comm]
   ·rw [show decide (z.1=p.1)=false by simp [hz]];refine iteF ?_;refine app _ (js++[z]) p.2 H4 SB.refl bH hZ (by rw [Yf,Yi] at al ⊢; omega) ?_;rw [pI,if_neg hz]
 ·obtain ⟨s2,acc,o2,o3,rfl,aV,bS⟩:=h2;rw [zl,Yh] at bS;refine ⟨_,Ja,D,acc,Ja,.inl ⟨SqL.of aV,fun t ht=>?_⟩⟩;have t3:=Jb ht (.tup acc);refine q _ _ ((((t0.trans s1).nil.trans s2).drop hD).trans t3) ?_;have e:Gr.tidy as=Gr.ofPs (jn bs):=by rw [<- uG]; rfl
  rw [e];exact CU (SqT.of Qt) (bS.sb t3 Gr.aa)
end
namespace Gr
theorem u9 {g:Gr} {C:Int} (h:∀ p ∈ bs,dE p.1.1/\p.1.2.Ok C/\1<=p.2) (hg:g.Ok D) (hs:∀ x,sumE bs x=S g x):tidy bs=g:=by
 have hn:=XJ (bs:=bs) fun p hp=>by have:=(h p hp).2.2; omega
 have hc:C<=bZ bs+1+(C.natAbs:Int):=by omega
 have o:(tidy bs).Ok (bZ bs+1+(C.natAbs:Int)):=pQ (C:=C) h (by omega) hc;refine ext o hg fun x=>?_;rw [<- hs x];show sumE (ofPs (pS aG bs)).ps x=_;rw [aQ,FA]
theorem Ap {g:Gr} {j:Nat} {p:Tr × Int} (e:g.ps[j]?=some p) (x:Tr):sumE (g.ps.take j++g.ps.drop (j+1)) x=S g x-(if p.1=x then p.2 else 0):=by
 have e1:g.ps=g.ps.take j++p::g.ps.drop (j+1):=by
  obtain ⟨hj,ej⟩:=Kq e;rw [<- ej,<- List.drop_eq_getElem_cons hj,List.take_append_drop]
 show _=sumE g.ps x-_
 conv=>rhs; rw [e1]
 rw [vY,vY,oq];omega
theorem jI {g:Gr} {C:Int} (ho:g.Ok C) {j:Nat} {p:Tr × Int} (e:g.ps[j]?=some p) (x:Tr):sumE (g.ps.take j++g.ps.drop (j+1)++(if 1 < p.2 then [(p.1,p.2-1)] else [])) x=S (wo g p.1 1) x:=by
 have pm:=Qu e;have h1:=(bW ho pm).2.2.1;have sp:=iS ho pm;rw [vY,Ap e x,EI ho (by decide),sp];by_cases hx:x=p.1
 ·subst hx;rw [if_pos rfl,if_pos rfl,sp]
  split
  ·rw [oq,if_pos rfl]; simp only [sumE]; omega
  ·simp only [sumE]; omega
 ·rw [if_neg (fun z=>hx z.symm),if_neg hx]
  split
  ·rw [oq,if_neg (fun z=>hx z.symm)]; simp only [sumE]; omega
  ·simp only [sumE]; omega
end Gr
section
variable {P:Program} {w:World} {K:Qn} {mg:Str->Option Value} {base:Heap} {f:Addr} {fd:FuncData}
abbrev Vo:List Str:=[ay,ao,aJ,bF,a6,"_law_at","_law_tree",aM,cP,"_law_spreads","_law_rules","_law_once","_law_each","_law_changed","_law_new","_law_so"]
theorem ee:FnScope Vo [ay,ao,aJ,bF,a6] (defScope Fm):=fS
theorem zd0 {ps:List Str}:FnOk P w K mg base CX0 k f fd ps (FC K 0):=tG fun vs H Q E ⟨_,_,_,_,_,_,_,_,_,_,_,_,_,_,_,_,_,_,_,_,_,_,h,_⟩=>by omega
theorem zgr (B:BI mg) (ly:Got P w K mg base bD [cP] (1) (Fz K)) (zO:Got P w K mg base cQ [ay,ao,aJ,bF,a6] (n+1) (FC K n)) (F:Fun K cQ cQ Fm f fd):FnOk P w K mg base CX0 (n+2) f fd [ay,ao,aJ,bF,a6] (FC K (n+1)):=by
 refine F.ok ee (fun vs H Q E h=>?_) (fun _ A _ s H vs Q E hr h=>?_)
 ·obtain ⟨d,a,u,b,g,pl,k,kd,i,r,m,C,rfl,_⟩:=h
  rfl
 obtain ⟨d,a,u,b,g,pl,k,kd,i,r,m,C,rfl,hd,⟨ok,gn⟩,⟨hu,go,gd,gp⟩,fy,hb,eg,er,m0,m1,hm,q⟩:=h;have bA:=bt hr;refine ⟨_,Qc (ps_set (i:=5) ee.nd rfl (.inl rfl) (Qm Ql (pv 2) Qg (fun _ _=>rfl)))
  (Qc (ps_asg (Qm Ql (pv 1) (pv 5) (fun _ _=>rfl)) (pg_tup rfl (Qi (pg_name (i:=6) ee.nd rfl (.inl rfl)) (Qi (pg_name (i:=7) ee.nd rfl (.inl rfl)) pgs_nil))))
  (Qc (ps_set (i:=8) ee.nd rfl (.inl rfl) (pe_callTy call_list_of rfl B.list boot_list (Qa (pe_op zT (pe_slice CS (pv 1) po_none (po_some (pv 5))) (pe_slice CS (pv 1) (po_some (pe_op Ko (pv 5) Qg)) po_none)) Qb)))
  (Qc (Qr (pt_cmpR op_gt (pv 7) Qg (nomark _)) (Qe (Kf (Kn Ki PySem.F.slot_list_append PySem.F.type_list_append mt_append (pv 8) (Qa (Ka (Qa (pv 6) (Qa (pe_op op_sub (pv 7) Qg) Qb))) Qb)))) pss_nil)
  (Qc (ps_asg (pe_dget (u1 hr) (pv 0) (Qm Ql (pv 6) Qg (fun _ _=>rfl)) (fun _ _=>rfl)) (pg_tup rfl (Qi (pg_name (i:=9) ee.nd rfl (.inl rfl)) (Qi (pg_name (i:=10) ee.nd rfl (.inl rfl)) pgs_nil))))
  (Qc (Qr (pt_cmpR op_eq (Qs call_len_seq rfl B.len PySem.boot_len (Qa (pv 2) Qb)) Qg (nomark _)) (Qc (ps_asg (Qm ix_list (pe_op op_cat (pe_lst (Qa (Ka (Qa (Ka Qb) (Qa (Ka Qb) Qb))) Qb)) (pv 10)) (pv 3) (fun _ _=>rfl)) (pg_tup rfl (Qi (pg_name (i:=11) ee.nd rfl (.inl rfl)) (Qi (pg_name (i:=12) ee.nd rfl (.inl rfl)) pgs_nil))))
  (Qc (Kf (Kn Ki PySem.F.slot_list_extend PySem.F.type_list_extend zba (pv 8) (Qa (pv 11) Qb)))
  (Qc (Qr (pt_cmpR op_gt (pv 4) Qg (nomark _)) (Qe (Kf (Kn Ki PySem.F.slot_list_extend PySem.F.type_list_extend mt_extend (pv 8) (Qa (pe_lc (own:=[("_law_new",14),("_law_so",15)]) (g:=(gTup K 2 (gCons (gName 14) (gCons (gName 15) gNil)))) (tt:=tYes) (te:=(tTup (tCons (tVar 14) (tCons (tOp (rI CMulW fun i j=>.int (i*j)) (tVar 15) (tVar 4)) tNil)))) rfl ee.nd (pi_tup (pv 12)) (blkOk_by (N:=Vo) (sc:=defScope Fm) (by decide +kernel)) (fun _ _ _ _ _=>(pg_tup rfl (Qi (pg_name (i:=14) ee.nd rfl (.inl rfl)) (Qi (pg_name (i:=15) ee.nd rfl (.inl rfl)) pgs_nil)))) (fun _ _ _ _ _=>pts_nil) (fun _ _ _ _ _=>(Ka (Qa (pv 14) (Qa (pe_op op_mulW (pv 15) (pv 4)) Qb))))) Qb)))) pss_nil)
  (Qe (Qj (aT ly (Hm hr) rfl (Qa (pv 8) Qb))))))) pss_nil)
  (Qc (ps_set (i:=13) ee.nd rfl (.inl rfl) (Ka (Qa (Qm Ql (pv 6) Qg (fun _ _=>rfl)) (Qa (aT zO (Hm hr) rfl (Qa (pv 0) (Qa (Qm Ql (pv 6) Qg (fun _ _=>rfl)) (Qa (pe_slice CS (pv 2) (po_some Qg) po_none) (Qa (pv 3) (Qa (pv 4) Qb)))))) Qb))))
  (Qc (Kf (Kn Ki PySem.F.slot_list_append PySem.F.type_list_append mt_append (pv 8) (Qa (Ka (Qa (pv 13) (Qa (pe_op Ko Qg (pe_op op_mul (pv 4) (pe_callTy call_int1 rfl B.int boot_int (Qa (pv 9) Qb)))) Qb))) Qb)))
  (Qe (Qj (aT ly (Hm hr) rfl (Qa (pv 8) Qb))))))))))),?_⟩
 have jy:=sizeLine_eq;obtain ⟨j,rr,rfl⟩:∃ j r,pl=j::r:=by
  cases pl with
  | nil=>exact absurd hb (by intro z; cases z)
  | cons j r=>exact ⟨j,r,Ja⟩
 obtain ⟨ga,gs,rfl,i3,qX⟩:=nH hu;have gl:=qX.length;have O9:=g.aF;obtain ⟨p,ep⟩:∃ p,g.ps[j]?=some p:=by
  by_cases hr:rr=[]
  ·subst hr;obtain ⟨p,e,_⟩:=Gr.bT hb;exact ⟨p,e⟩
  ·obtain ⟨p,e,_⟩:=Gr.bC hr hb;exact ⟨p,e⟩
 have pm:=Qu ep;obtain ⟨n1,o1,p1,pD⟩:=Gr.bW go pm;have pd:=g.av p pm;have pp:=g.bu p pm;obtain ⟨vp,TV,fz⟩:=qX.at ep;obtain ⟨ad,bd,ux,rfl,h1,h2,h3,h4⟩:=nP fz;obtain ⟨kn,pn⟩:=Gr.aR.mp gn p pm;obtain ⟨BN,Pd⟩:=Bk.dw kn;have ij:dV r:=by
  rcases Qv (Qu er) with rfl | rm
  ·exact (Gr.yu (ns:=[])).1
  ·exact ((ok.kd kd (Bk.get_some eg).1).2.2 r rm).1
 have rp:=ij.2.2;have hC:=Gr.pB go pm;refine ⟨_,Ja,a,_,_,_,Ja,Ja,fy,atI_nat (j:=0) rfl,?_⟩;refine cJ ?_;refine ⟨_,Ja,_,Ja,ga,gs,_,_,Ja,Ja,i3,atI_nat TV,ad,_,Ja,h1,Ja,_,_,Ja,_,_,Ja,Ja,?_⟩;refine ⟨_,Ja,_,Ja,_,Ja,ga,gs,Ja,i3,fun c1 H1 s1 vE=>?_⟩;rw [N1] at vE;refine ⟨_,Ja,_,Ja,_,_,Ja,Ja,_,Ja,ga,gs,Ja,s1.aL i3,fun c2 H2 s2 qD=>?_⟩;have e1:cutV gs (some ((j:Int)+1)) none=gs.drop (j+1):=by rw [<- PH]; rfl
 rw [e1] at qD;refine ⟨c1,c2,_,_,Ja,Ja,s2.aL vE,qD,by rw [Kx,List.length_drop]; omega,fun c3 H3 s3 Kj=>?_⟩;refine ⟨c3,_,Ja,.inr Kj,fun L nL=>?_⟩;have t4:=Jb nL (.lst (gs.take j++gs.drop (j+1)));have Ca:=eZ t4;have hO:=(s1.trans s2).trans s3;have tc:=hO.trans t4;have OI:H L=none:=hO.kU _ nL;generalize upd H3 L _=H4 at t4 Ca tc;have Gf:Bears K H4 Gr.aB (gs.take j++gs.drop (j+1)) (g.ps.take j++g.ps.drop (j+1)):=((qX.take j).append (qX.drop (j+1))).sb tc Gr.aa;have l4:(g.ps.take j++g.ps.drop (j+1)).length<=400:=by rw [Yf,Kx,List.length_drop]; omega
 have inG:∀ x ∈ g.ps.take j++g.ps.drop (j+1),x ∈ g.ps:=fun x hx=>by
  rcases Qw hx with hx | hx
  ·exact List.mem_of_mem_take hx
  ·exact List.mem_of_mem_drop hx
 refine cJ ?_;dsimp only;refine Fx (fun σ' G=>∃ zs,σ'=[some (.ref d),some (.ref ga),some (.ref a),some (.int (i:Nat)),some (.int m),some (.int (j:Nat)),some (.ref bd),some (.int p.2),some (.ref L),none,none,none,none,none,none,none]/\SB [L] H4 G/\G L=some (.lst zs)/\Bears K G Gr.aB zs (g.ps.take j++g.ps.drop (j+1)++(if 1 < p.2 then [(p.1,p.2-1)] else []))) (fun nx oO=>?_) (fun σ' G h=>?_)
 ·refine ⟨_,Ja,_,_,Ja,Ja,_,Ja,?_⟩;by_cases h0:1 < p.2
  ·rw [Ya h0,if_pos h0] at *;refine iteT ⟨_,Ja,.inl ⟨rfl,_,SqL.of Ca⟩,_,Ja,_,Ja,_,_,Ja,Ja,dY,fun T nT=>?_⟩;have t5:=SB.new (ps:=[L]) nT (.tup [.ref bd,.int (p.2-1)]);have qH:upd H4 T (.tup [.ref bd,.int (p.2-1)]) L=some (.lst (gs.take j++gs.drop (j+1))):=by rw [upd_ne (ne_of_none Ca nT)]; exact Ca
   have xf:SqT K (upd H4 T (.tup [.ref bd,.int (p.2-1)])) T [.ref bd,.int (p.2-1)]:=SqT.of Qt;generalize upd H4 T _=H5 at t5 qH xf;have bl:=Gf.length;refine ⟨L,_,_,Ja,Ja,qH,vW (by omega),?_⟩;have t6:=SB.set (ps:=[L]) qH (by simp) (.lst (gs.take j++gs.drop (j+1)++[.ref T]));refine oO _ _ ⟨_,Ja,t5.trans t6,Qt,((Gf.sb t5 Gr.aa).sb t6 Gr.aa).append (.cons (Dp.tup (t6.aL xf) (.cons (cI ((tc.nil.trans t5).trans t6) _ _ (Gr.ax _) h4) (.cons (.int _) .nil))) .nil)⟩
  ·rw [Qz h0];refine iteF (oO _ _ ⟨_,Ja,SB.refl,Ca,?_⟩);rw [if_neg h0,Kz];exact Gf
 obtain ⟨zs,rfl,s5,qH,yT⟩:=h;have kq:SB [] H G:=(tc.nil.trans s5).drop OI;have zl:=yT.length;have l5:(g.ps.take j++g.ps.drop (j+1)++(if 1 < p.2 then [(p.1,p.2-1)] else [])).length<=401:=by
  rw [Yf]
  split
  ·rw [Yi]; omega
  ·rw [List.length_nil]; omega
 have Yw:∀ x ∈ g.ps.take j++g.ps.drop (j+1)++(if 1 < p.2 then [(p.1,p.2-1)] else []),dE x.1.1/\x.1.2.Ok C/\1<=x.2/\x.1.2.deep<=14:=fun x hx=>by
  rcases Qw hx with hx | hx
  ·have xm:=inG x hx;obtain ⟨a1,a2,a3,_⟩:=Gr.bW go xm;have:=g.av x xm;exact ⟨a1,a2,a3,by omega⟩
  ·split at hx
   ·rw [Qy hx]; exact ⟨n1,o1,by show 1<=p.2-1; omega,by show p.1.2.deep<=14; omega⟩
   ·cases hx
 obtain ⟨vv,R8,t,l,us,rfl,ht,hl,gG⟩:=(hd.ef kq).val Pd;refine ⟨_,Ja,_,Ja,bd,_,_,_,Ja,Ja,kq.aL h2,atI_nat (j:=0) rfl,d,_,Ja,R8,t,_,Ja,ht,Ja,_,_,Ja,_,_,Ja,Ja,?_⟩;refine ⟨_,Ja,a,_,Ja,.inr (kq.aL fy),Ja,_,Ja,?_⟩;by_cases hr:rr=[]
 ·subst hr;obtain ⟨p',Gj,epk⟩:=Gr.bT hb;rw [ep] at Gj;cases Gj;have e2:BN=kd:=by
   rw [epk] at Pd;exact Yd (Pd.symm.trans eg)
  subst e2;refine iteT ?_;refine ⟨Z0,fun z1 yq=>?_⟩;have t6:=Jb yq (.tup []);have mT:=iV (K:=K) t6;generalize upd G z1 _=H6 at t6 mT;refine ⟨Z0,fun z2 AG=>?_⟩;have t7:=Jb AG (.tup []);have yI:=iV (K:=K) t7;generalize upd H6 z2 _=H7 at t7 yI;refine ⟨dY,fun z3 Dw=>?_⟩;have t8:=Jb Dw (.tup [.ref z1,.ref z2]);have qU:=iV (K:=K) t8;generalize upd H7 z3 _=H8 at t8 qU;have wY:Dp K H8 (.ref z3) (Ru.enc lN):=.tup qU (.cons (Ah ((t7.trans t8).aL mT)) (.cons (Ah (t8.aL yI)) .nil));refine ⟨lH,fun z4 IZ=>?_⟩;have t9:=Jb IZ (.lst [.ref z3]);have AR:=eZ t9;generalize upd H8 z4 _=H9 at t9 AR;have lB:=((t6.trans t7).trans t8).trans t9;have usl:=gG.length;have u4:=(ok.kd BN (Bk.get_some eg).1).2.1;refine ⟨_,Ja,z4,l,_,_,Ja,Ja,AR,lB.keep _ _ hl aP,by rw [Yi]; omega,fun z5 Du=>?_⟩;have kj:=Jb Du (.lst ([.ref z3]++us));have xE:=eZ kj;generalize upd H9 z5 _=xO at kj xE;have Au:=lB.trans kj;have oh:Bears K xO Ru.enc ([.ref z3]++us) (lN::BN.rs):=.cons (cI (t9.trans kj) _ _ (Ru.aj _) wY) (gG.sb Au Ru.aj);obtain ⟨rv,erv,OP⟩:=oh.at er;cases OP with
  | @tup rt tK _ hrt hda =>
  cases hda with
  | @cons v1 _ _ _ g1 hda =>
  cases hda with
  | @cons v2 _ _ _ g2 hda =>
  cases hda;have g1:GA K xO v1 r.1:=g1;have g2:GA K xO v2 r.2:=g2;obtain ⟨c4,Iu,rfl,hc4,ti⟩:=nH g1;obtain ⟨c5,XQ,rfl,Zh,KD⟩:=nH g2;have xl1:=ti.length;have xl2:=KD.length;have rl1:=r.1.aF;have rl2:=r.2.aF;refine ⟨_,Ja,z5,_,_,_,Ja,Ja,SqL.of xE,atI_nat erv,rt,_,Ja,hrt,Ja,_,_,Ja,_,_,Ja,Ja,?_⟩;have xg:=Au.keep _ _ qH aP;have Be:=yT.sb Au Gr.aa;refine ⟨_,Ja,.inl ⟨rfl,_,SqL.of xg⟩,_,Ja,L,c4,_,_,Ja,Ja,xg,hc4,by omega,?_⟩;have nQ:=SB.set (ps:=[L]) xg (by simp) (.lst (zs++Iu));have Bh:upd xO L (.lst (zs++Iu)) L=some (.lst (zs++Iu)):=Qt;generalize upd xO L _=CB at nQ Bh;have KG:=(Be.append ti).sb nQ Gr.aa;have s0b:SB [] H CB:=((kq.trans Au).nil.trans nQ).drop OI;have Rm:∀ x ∈ r.1.ps,dE x.1.1/\x.1.2.Ok 1000000001/\1<=x.2/\x.1.2.deep<=14:=fun x hx=>by
   obtain ⟨a1,a2,a3,_⟩:=Gr.bW ij.1 hx;have:=r.1.av x hx;have:=pJ r.1;exact ⟨a1,a2,a3,by omega⟩
  have Rl:∀ x ∈ r.2.ps,dE x.1.1/\x.1.2.Ok 1000000001/\1<=x.2/\x.1.2.deep<=14:=fun x hx=>by
   obtain ⟨a1,a2,a3,_⟩:=Gr.bW ij.2.1 hx;have:=r.2.av x hx;have:=pJ r.2;exact ⟨a1,a2,a3,by omega⟩
  dsimp only;refine Fx (fun σ' G2=>∃ (NI:List V) (Yy Yx:Option V),σ'=[some (.ref d),some (.ref ga),some (.ref a),some (.int (i:Nat)),some (.int m),some (.int (j:Nat)),some (.ref bd),some (.int p.2),some (.ref L),some (.bl BN.w),some (.ref l),some (.ref c4),some (.ref c5),none,Yy,Yx]/\SB [L] CB G2/\G2 L=some (.lst NI)/\Bears K G2 Gr.aB NI ((g.ps.take j++g.ps.drop (j+1)++(if 1 < p.2 then [(p.1,p.2-1)] else []))++r.1.ps++(Gr.dJ r.2 m).ps)) (fun nx oO=>?_) (fun σ' G2 h=>?_)
  ·refine ⟨_,Ja,_,_,Ja,Ja,_,Ja,?_⟩;by_cases h0:0 < m
   ·rw [Ya h0];refine iteT ⟨_,Ja,.inl ⟨rfl,_,SqL.of Bh⟩,_,Ja,c5,Ja,⟨XQ,nQ.aL Zh⟩,fun D nD=>?_⟩;refine oo (walk_tup (xs:=XQ)) nD (by omega) (fun jj ws H6=>Bears K H6 Gr.aB ws (Gr.jH m (r.2.ps.take jj))) .nil (fun H6 s6=>s6.aL (nQ.aL Zh)) (fun _ _ _ _ s h=>h.sb s Gr.aa) (fun Pv jj y Hq H6 ws hj s6 yy hR Sb fin skip=>?_) (fun ws H6 s6 ie hR Sb=>?_)
    ·obtain ⟨rfl,TR⟩:=yy;obtain ⟨x2,Pc,lu⟩:=KD.get TR;have xm:=Qu Pc;obtain ⟨q1,q2,q3,q4⟩:=Gr.bW ij.2.1 xm;obtain ⟨ad2,bd2,ux2,rfl,k1,k2,k3,k4⟩:=nP lu;have cm:CMulW x2.2 m:=by
      have e1:=Fs (x:=x2.2) (a:=2000) (b:=2000) (Gr.fx (by omega) (Int.lt_trans q4 (by decide +kernel))) (Yc _) (by decide);have e2:=Fs (x:=m) (a:=2000) (b:=2000) (Gr.fx m0 m1) (Yc _) (by decide);unfold CMulW;omega
     have BH:=nQ.trans (s6.nil (ps:=[L]));refine ⟨ad2,_,Ja,BH.aL k1,Ja,_,_,Ja,_,_,Ja,Ja,Ja,?_⟩;refine ⟨_,Ja,_,Ja,_,Ja,_,_,Ja,Ja,cm,dY,fun T nT=>?_⟩;have pT:=Jb nT (.tup [.ref bd2,.int (x2.2*m)]);refine fin _ _ pT ?_;rw [Yg,Pc];show Bears K _ Gr.aB _ (List.map _ _);rw [Yj];exact (hR.sb pT Gr.aa).append (.cons (Dp.tup (SqT.of Qt) (.cons (cI (BH.trans pT.nil) _ _ (Gr.ax _) k4) (.cons (.int _) .nil))) .nil)
    ·rw [xl2,Yh] at hR;have Zx:=s6.keep _ _ Bh aP;have wl:=hR.length;have wl2:(Gr.jH m r.2.ps).length=r.2.ps.length:=List.length_map ..;have z6l:(zs++Iu).length<=500:=by rw [Yf]; omega
     refine ⟨L,D,_,_,Ja,Ja,Zx,ie,by omega,?_⟩;have pT:=SB.set (ps:=[L]) Zx (by simp) (.lst (zs++Iu++ws));refine oO _ _ ⟨_,_,_,Ja,s6.nil.trans pT,Qt,?_⟩;have em:(Gr.dJ r.2 m).ps=Gr.jH m r.2.ps:=by
      unfold Gr.dJ;rw [if_neg (by omega),Gr.aQ]
     rw [em];exact ((KG.sb s6 Gr.aa).sb pT Gr.aa).append (hR.sb pT Gr.aa)
   ·rw [Qz h0];refine iteF (oO _ _ ⟨_,_,_,Ja,SB.refl,Bh,?_⟩);have em:(Gr.dJ r.2 m).ps=[]:=by
     unfold Gr.dJ;rw [if_pos (by omega)]; rfl
    rw [em,Kz];exact KG
  obtain ⟨NI,Yy,Yx,rfl,jz,Tj,S7⟩:=h;have Q3:SB [] H G2:=(s0b.nil.trans jz).drop OI;have tl:=Gr.u6 r.2 m;have mok:∀ x ∈ (Gr.dJ r.2 m).ps,dE x.1.1/\x.1.2.Ok 1000000001/\1<=x.2/\x.1.2.deep<=14:=fun x hx=>by
   have mo:=Gr.fZ (m:=m) ij.2.1 (by decide) m0;obtain ⟨q,hq,eq⟩:=Gr.pO hx;obtain ⟨a1,a2,a3,a4⟩:=Rl q hq;exact ⟨by rw [<- eq]; exact a1,by rw [<- eq]; exact a2,(Gr.bW mo hx).2.2.1,by rw [<- eq]; exact a4⟩
  have all:∀ x ∈ (g.ps.take j++g.ps.drop (j+1)++(if 1 < p.2 then [(p.1,p.2-1)] else []))++r.1.ps++(Gr.dJ r.2 m).ps,dE x.1.1/\x.1.2.Ok (C+1000000001)/\1<=x.2/\x.1.2.deep<=14:=fun x hx=>by
   rcases Qw hx with hx | hx
   ·rcases Qw hx with hx | hx
    ·obtain ⟨a1,a2,a3,a4⟩:=Yw x hx;exact ⟨a1,a2.mono (by omega),a3,a4⟩
    ·obtain ⟨a1,a2,a3,a4⟩:=Rm x hx;exact ⟨a1,a2.mono (by omega),a3,a4⟩
   ·obtain ⟨a1,a2,a3,a4⟩:=mok x hx;exact ⟨a1,a2.mono (by omega),a3,a4⟩
  refine ⟨_,Ja,L,NI,_,Ja,.inl (SqL.of Tj),S7,?_,⟨C+1000000001,fun x hx=>⟨(all x hx).1,(all x hx).2.1,Yb (all x hx).2.2.2 (by decide)⟩⟩,fun v H' BJ hv=>q v H' (Q3.trans BJ) ?_⟩
  ·rw [Yf,Yf]; omega
  ·have e3:Gr.tidy ((g.ps.take j++g.ps.drop (j+1)++(if 1 < p.2 then [(p.1,p.2-1)] else []))++r.1.ps++(Gr.dJ r.2 m).ps)=Gr.ki (Gr.wo g p.1 1) (Gr.fM r m):=by
    refine Gr.u9 (fun x hx=>⟨(all x hx).1,(all x hx).2.1,(all x hx).2.2.1⟩) (Gr.fN (Gr.iC go (by decide)) (Gr.qJ ij m0) (by omega) (by omega)) fun x=>?_;rw [vY,vY,Gr.jI go ep x,Gr.pq];unfold Gr.fM;rw [Gr.pq];show _+Gr.S r.1 x+Gr.S (Gr.dJ r.2 m) x=_;omega
   rw [e3] at hv;rw [Gr.fu ep];exact hv
 have hlen:decide (V.int (((j::rr).map fun n:Nat=>V.int (n:Int)).length:Nat)=V.int 1)=false:=by
  have:=List.length_pos_iff.mpr hr;simp only [Ye,Yk,V.int.injEq];exact Qz (by omega)
 rw [hlen];obtain ⟨p',Gj,hZ⟩:=Gr.bC hr hb;have e:=ep.symm.trans Gj;cases e;rw [Yk] at hm;refine iteF ⟨_,Ja,bd,_,_,_,Ja,Ja,kq.aL h2,atI_nat (j:=0) rfl,_,Ja,_,Ja,bd,_,_,_,Ja,Ja,kq.aL h2,atI_nat (j:=1) rfl,_,Ja,1,Ja,a,_,Ja,kq.aL fy,fun c H6 s6 hc=>?_⟩;rw [EB,Ky,List.drop_succ_cons,List.drop_zero] at hc;have BK:=kq.trans s6;refine ⟨_,Ja,_,Ja,d,c,ux,b,p.1.2,rr,k,kd,i,r,m,C,Ja,hd.ef BK,⟨ok,pn⟩,⟨h3.sb BK,o1,by omega,by omega⟩,hc,hZ,eg,er,m0,m1,by omega,fun inner H7 s7 yM=>?_⟩;refine ⟨dY,fun T nT=>?_⟩;have t8:=Jb nT (.tup [.str p.1.1,inner]);have hT:Dp K (upd H7 T (.tup [.str p.1.1,inner])) (.ref T) (Gr.aG (Gr.chg b m (Gr.fM r m) rr p)):=.tup (SqT.of Qt) (.cons (.str _) (.cons (yM.sb t8) .nil));generalize upd H7 T _=H8 at t8 hT;refine cJ ?_;have ID:=(s6.trans s7).trans t8;have B9:=ID.keep _ _ qH aP;have hb8:=yT.sb ID Gr.aa;obtain ⟨f0,f1⟩:=Bk.kS b p.1.1 m0;have SQ:1+m*(if BN.w=true then 1 else 0)=1+b.far p.1.1 m:=by
  unfold Bk.far;rw [Pd];show _=1+(if BN.w=true then m else 0)
  split <;> omega
 have w01:(-(2 ^ 64):Int) < (if BN.w=true then 1 else 0)/\(if BN.w=true then 1 else 0) < (2 ^ 64:Int):=by split <;> exact ⟨by decide,by decide⟩
 refine ⟨_,Ja,.inl ⟨rfl,_,SqL.of B9⟩,_,Ja,_,Ja,_,Ja,.inr ⟨_,Ja,_,_,Ja,Ja,.inr w01,_,_,Ja,Ja,dY,fun T2 yx=>?_⟩⟩;dsimp only;rw [SQ];have t9:=Jb yx (.tup [.ref T,.int (1+b.far p.1.1 m)]);have OZ:=iV (K:=K) t9;have Ep:=t9.keep _ _ B9 aP;have Zj:=hb8.sb t9 Gr.aa;have Zo:=cI t9 _ _ (Gr.ax _) hT;generalize upd H8 T2 _=H9 at t9 OZ Ep Zj Zo;refine ⟨L,_,_,Ja,Ja,Ep,vW (by omega),?_⟩;have kj:=SB.set (ps:=[L]) Ep (by simp) (.lst (zs++[.ref T2]));have xg:upd H9 L (.lst (zs++[.ref T2])) L=some (.lst (zs++[.ref T2])):=Qt;have Be:Bears K (upd H9 L (.lst (zs++[.ref T2]))) Gr.aB (zs++[.ref T2]) ((g.ps.take j++g.ps.drop (j+1)++(if 1 < p.2 then [(p.1,p.2-1)] else []))++[(Gr.chg b m (Gr.fM r m) rr p,1+b.far p.1.1 m)]):=(Zj.sb kj Gr.aa).append (.cons (Dp.tup (kj.aL OZ) (.cons (cI kj _ _ (Gr.ax _) Zo) (.cons (.int _) .nil))) .nil);have wk:SB [] H (upd H9 L (.lst (zs++[.ref T2]))):=(((kq.trans ID).trans t9).nil.trans kj).drop OI;generalize upd H9 L _=xO at kj xg Be wk;have go2:=Gr.qJ ij m0;have io:=Gr.kA (b:=b) m0 (by omega) go2 o1 hZ;have id:=Gr.gL (b:=b) (n:=m) (fr:=Gr.fM r m) hZ;have il:=Gr.fF hZ;have Pa:=Gr.mX ij m;have all:∀ x ∈ (g.ps.take j++g.ps.drop (j+1)++(if 1 < p.2 then [(p.1,p.2-1)] else []))++[(Gr.chg b m (Gr.fM r m) rr p,1+b.far p.1.1 m)],dE x.1.1/\x.1.2.Ok (C+(1000000001*m+2000000002)+m+2)/\1<=x.2/\x.1.2.deep<=18:=fun x hx=>by
  rcases Qw hx with hx | hx
  ·obtain ⟨a1,a2,a3,a4⟩:=Yw x hx;exact ⟨a1,a2.mono (by omega),a3,by omega⟩
  ·rw [Qy hx];exact ⟨n1,io,by show 1<=1+b.far p.1.1 m; omega,by show (Gr.stk b m (Gr.fM r m) rr p.1.2).1.deep<=18; omega⟩
 refine ⟨_,Ja,L,_,_,Ja,.inl (SqL.of xg),Be,by rw [Yf,Yi]; omega,⟨_,fun x hx=>⟨(all x hx).1,(all x hx).2.1,(all x hx).2.2.2⟩⟩,fun v H' OD hv=>q v H' (wk.trans OD) ?_⟩;rw [Gr.cY ep hr];have e3:Gr.tidy ((g.ps.take j++g.ps.drop (j+1)++(if 1 < p.2 then [(p.1,p.2-1)] else []))++[(Gr.chg b m (Gr.fM r m) rr p,1+b.far p.1.1 m)])=Gr.xi b m (Gr.fM r m) rr g p:=by
  refine Gr.u9 (fun x hx=>⟨(all x hx).1,(all x hx).2.1,(all x hx).2.2.1⟩) (D:=C+(C+(1000000001*m+2000000002)+m+2)) (Gr.fN (Gr.iC go (by decide)) (Gr.qf (C:=C+(1000000001*m+2000000002)+m+2) n1 io (by omega) (by omega)) (by omega) (by omega)) fun x=>?_;rw [vY,Gr.jI go ep x];unfold Gr.xi;rw [Gr.pq,Gr.zy];simp only [sumE];omega
 rw [e3] at hv;exact hv
end
theorem zh4 {K:Qn} {H:Hp} {c:Addr} {σ:L2.St} {jP jL jV:Nat} {wi:TI} (hk:k<=1000) (h1:∀ x,((wipe σ [jV]).set jV (some x))[jP]?=some (some (.ref p))) (h2:∀ x,((wipe σ [jV]).set jV (some x))[jL]?=some (some (.str tw)))
  (h3:∀ x,wipe ((wipe σ [jV]).set jV (some x)) [jV]=wipe σ [jV]) (hwi:∀ R:It->Hp->Prop,R (Itr 0 k) H->wi σ H R) (hp:cu H p c) (q:∀ z H',SB [p] H H'->cu H' p c->ju z k->Q (.str z) H') :
  tM1 (zg6 K) (tC (.str (Str.ofString ""))) (tLc wi (gName jV) tYes (tOp rIxS (tVar jL) (tCall Ai [] E0 (tCons (tVar jP) (tCons (tC (.int 26)) tNil)))) [jV]) σ H Q:=by
 refine ⟨⟨_,Ja⟩,hwi _ fun D hD=>?_⟩;have jy:=sizeLine_eq;refine zf0 walk_range [p] hD hp.some (by omega) (fun i us H2=>cu H2 p c/\∃ cs:List Nat,us=cs.map (fun c=>V.str ⟨#[c]⟩)/\cs.length=i/\∀ c ∈ cs,97<=c/\c<=122) ⟨hp,[],Ja,Ja,by simp⟩ (fun _ _=>trivial) (fun i us H2 H3 e ⟨a,b⟩=>⟨a.keep e (by simpa using hp.ne hD) (by simpa using hp.nc hD),b⟩) (fun Pv i x H2 H' us hi s2 y hR hl fin _=>?_) (fun us H2 s2 aV hR hl=>?_)
 ·obtain ⟨rfl,rfl⟩:=y;obtain ⟨eT,cs,rfl,cl,co⟩:=hR;refine ⟨h3 _,_,h2 _,?_⟩;refine ⟨_,h1 _,p,c,26,Ja,eT,by decide,by decide,fun r H3 r0 r26 s3 mU=>?_⟩;obtain ⟨n,rfl⟩:∃ n:Nat,r=(n:Int):=⟨r.toNat,by omega⟩;obtain ⟨c,hc,hco⟩:=zhr n (by omega);refine ⟨_,_,c,Ja,Ja,V0,Oe hc,fin _ _ s3 ⟨mU,cs++[c],by rw [Yj]; rfl,by simp [cl],fun d hd=>?_⟩⟩;rcases Qw hd with hd | hd
  ·exact co d hd
  ·rw [Qy hd]; exact hco
 ·obtain ⟨eT,cs,rfl,cl,co⟩:=hR;have e1:(cs.map fun c=>V.str ⟨#[c]⟩)=(cs.map fun c=>(⟨#[c]⟩:Str)).map V.str:=by rw [List.map_map]; rfl
  rw [e1] at aV;refine ⟨_,D,cs.map fun c=>⟨#[c]⟩,Ja,Ja,.inl (SqL.of aV),?_,q _ _ s2 eT (by have:=zch cs co; rw [cl] at this; exact this)⟩;have:∀ cs:List Nat,((cs.map fun c=>(⟨#[c]⟩:Str)).map (·.length)).sum=cs.length:=by
   intro cs
   induction cs with
   | nil=>rfl
   | cons c r ih=>rw [Ky,Ky,List.sum_cons,ih]; show 1+r.length=r.length+1; omega
  rw [this,Ye,cl];have:(Str.ofString "").length=0:=by decide +kernel
  rw [this]; omega
theorem ju.Cv (h:ju z n) (a:Nat):ju (cutS z (some (a:Int)) none) (n-min a n):=by
 have hl:=h.len;have e:(cutS z (some (a:Int)) none).cps.toList=z.cps.toList.drop (min a n):=by
  unfold cutS;rw [HT.sIx_nat,HT.sIx_none,hl];have:=h.1;rw [List.take_of_length_le (by rw [List.length_drop]; omega)]
 unfold ju;rw [e,List.length_drop,h.1];exact ⟨rfl,fun c hc=>h.2 c (List.mem_of_mem_drop hc)⟩
section
variable {P:Program} {w:World} {K:Qn} {mg:Str->Option Value} {base:Heap} {f:Addr} {fd:FuncData}
abbrev NM:List Str:=[ai,aM,"_law_letters","_law_size","_law_stem","_law_at","_law_first","_law_step","_law_k"]
theorem d9:FnScope NM [ai,aM] (defScope Bv):=fS
theorem zii (B:BI mg) (cg:Got P w K mg base bU [ai,aM] (1) (Ai)) (F:Fun K fm fm Bv f fd):FnOk P w K mg base CX0 (2) f fd [ai,aM] (WL K):=by
 refine F.ok d9 (fun vs H Q E h=>?_) (fun _ A _ _ H vs Q E hr h=>?_)
 ·obtain ⟨p,cl,m,rfl,_⟩:=h
  rfl
 obtain ⟨p,cl,m,rfl,hp,m1,m8,q⟩:=h;have bA:=bt hr;refine ⟨_,Qc (ps_set (i:=2) d9.nd rfl (.inr rfl) pe_str)
  (Qc (ps_set (i:=3) d9.nd rfl (.inl rfl) (pe_op Ko Qg (aT cg (Hm hr) rfl (Qa (pv 0) (Qa Qg Qb)))))
  (Qc (ps_set (i:=4) d9.nd rfl (.inr rfl) (pe_join pe_str (pe_lc (own:=[("_law_k",8)]) (g:=(gName 8)) (tt:=tYes) (te:=(tOp rIxS (tVar 2) (tCall (Ai) [] E0 (tCons (tVar 0) (tCons (tC (.int 26)) tNil))))) rfl d9.nd (pi_range1 rfl B.range (Qa (pv 3) Qb)) (blkOk_by (N:=NM) (sc:=defScope Bv) (by decide +kernel)) (fun _ _ _ _ _=>(pg_name (i:=8) d9.nd rfl (.inl rfl))) (fun _ _ _ _ _=>pts_nil) (fun _ _ _ _ _=>(Qm ix_str (pv 2) (aT cg (Hm hr) rfl (Qa (pv 0) (Qa Qg Qb))) (fun _ _=>rfl))))))
  (Qc (Qr (pt_cmpR op_eq (aT cg (Hm hr) rfl (Qa (pv 0) (Qa Qg Qb))) Qg (nomark _)) (Qe (Qj (pe_lc (own:=[("_law_k",8)]) (g:=(gName 8)) (tt:=tYes) (te:=(tOp Vc (tOp rIxS (tVar 4) (tC (.int 0))) (tOp (rI0 fun i j=>.int (i-j)) (tVar 1) (tVar 8)))) rfl d9.nd (pi_range1 rfl B.range (Qa (pv 1) Qb)) (blkOk_by (N:=NM) (sc:=defScope Bv) (by decide +kernel)) (fun _ _ _ _ _=>(pg_name (i:=8) d9.nd rfl (.inl rfl))) (fun _ _ _ _ _=>pts_nil) (fun _ _ _ _ _=>(pe_op zfh (Qm ix_str (pv 4) Qg (fun _ _=>rfl)) (pe_op op_sub (pv 1) (pv 8))))))) pss_nil)
  (Qc (ps_set (i:=5) d9.nd rfl (.inr rfl) (aT cg (Hm hr) rfl (Qa (pv 0) (Qa (pv 3) Qb))))
  (Qc (ps_set (i:=6) d9.nd rfl (.inr rfl) (aT cg (Hm hr) rfl (Qa (pv 0) (Qa Qg Qb))))
  (Qc (ps_set (i:=7) d9.nd rfl (.inr rfl) (pe_op Ko Qg (aT cg (Hm hr) rfl (Qa (pv 0) (Qa Qg Qb)))))
  (Qe (Qj (pe_lc (own:=[("_law_k",8)]) (g:=(gName 8)) (tt:=tYes) (te:=(tOp (fun x y H Q=>∃ i j,x=.str i/\y=.str j/\i.length+j.length<=sizeLine/\Q (.str (i++j)) H) (tOp (fun x y H Q=>∃ i j,x=.str i/\y=.str j/\i.length+j.length<=sizeLine/\Q (.str (i++j)) H) (tSl rSlS (tVar 4) tNoPart (tPart (tVar 5))) (tOp rIxS (tVar 2) (tOp (rI (fun _ j=>0 < j) fun i j=>.int (i % j)) (tOp (rI0 fun i j=>.int (i+j)) (tVar 6) (tOp (rI CMul fun i j=>.int (i*j)) (tVar 8) (tVar 7))) (tC (.int 26))))) (tSl rSlS (tVar 4) (tPart (tOp (rI0 fun i j=>.int (i+j)) (tVar 5) (tC (.int 1)))) tNoPart))) rfl d9.nd (pi_range1 rfl B.range (Qa (pv 1) Qb)) (blkOk_by (N:=NM) (sc:=defScope Bv) (by decide +kernel)) (fun _ _ _ _ _=>(pg_name (i:=8) d9.nd rfl (.inl rfl))) (fun _ _ _ _ _=>pts_nil) (fun _ _ _ _ _=>(pe_op op_add_str (pe_op op_add_str (pe_slice sl_str (pv 4) po_none (po_some (pv 5))) (Qm ix_str (pv 2) (pe_op op_mod (pe_op Ko (pv 6) (pe_op op_mul (pv 8) (pv 7))) Qg) (fun _ _=>rfl))) (pe_slice sl_str (pv 4) (po_some (pe_op Ko (pv 5) Qg)) po_none)))))))))))),?_⟩
 have jy:=sizeLine_eq;refine cJ (C9 (EF ?_));refine ⟨_,Ja,p,cl,8,Ja,hp,by decide,by decide,fun r1 H1 Rn r18 s1 gq=>?_⟩;obtain ⟨Ao,rfl⟩:∃ u:Nat,r1=(u:Int):=⟨r1.toNat,by omega⟩;refine ⟨_,_,Ja,Ja,?_⟩;refine cJ (C9 (EF ?_));refine zh4 (k:=1+Ao) (jP:=0) (jL:=2) (jV:=8) (c:=cl) (σ:=[some (.ref p),some (.int (m:Int)),some (.str tw),some (.int ((1:Int)+(Ao:Int))),none,none,none,none,none]) (by omega) (fun _=>rfl) (fun _=>rfl) (fun _=>rfl) (fun R hR=>⟨_,Ja,(1:Int)+(Ao:Int),Ja,by omega,by omega,by rw [show ((1:Int)+(Ao:Int)).toNat=1+Ao by omega]; exact hR⟩) gq (fun st H2 s2 eT jB=>?_);have sl:=jB.len;refine cJ (ifI ?_);refine ⟨_,Ja,p,cl,3,Ja,eT,by decide,by decide,fun r3 H3 r30 r33 s3 mU=>?_⟩;refine ⟨rfl,_,Ja,?_⟩;have hO:SB [p] H H3:=(s1.trans s2).trans s3;refine ite2 (fun _=>?_) (fun _=>?_)
 ·obtain ⟨c0,ZU⟩:∃ c0,st.cps.toList[0]?=some c0:=⟨_,Kp (by rw [jB.1]; omega)⟩;have hc0:=jB.2 c0 (Qu ZU)
  let wA:Nat->Str:=fun i=>Txt.mul ⟨#[c0]⟩ ((m-i:Nat):Int)
  have lA:∀ i,ju (wA i) (m-i):=fun i=>ju.mul _ hc0;refine ⟨_,Ja,_,Ja,by omega,by omega,fun D hD=>?_⟩;rw [Int.toNat_natCast];refine oo walk_range hD (by omega) (fun i us _=>us=((List.range i).map wA).map V.str) rfl (fun _ _=>trivial) (fun _ _ _ _ _ h=>h) (fun Pv i x Hx H' us hi sx y hR hl fin _=>?_) (fun us Hx sx Tp hR hl=>?_)
  ·obtain ⟨rfl,rfl⟩:=y;have e1:(m:Int)-(0+(i:Int))=((m-i:Nat):Int):=by omega
   refine ⟨rfl,?_⟩;refine ⟨_,Ja,st,0,c0,Ja,Ja,by omega,Oe (j:=0) ZU,_,Ja,_,Ja,_,_,Ja,Ja,⟨#[c0]⟩,m-i,Ja,congrArg V.int e1,by omega,by show 1<=1000; decide,?_⟩;refine fin _ _ SB.refl ?_;rw [hR,List.range_succ,Yj,Yj]
   rfl
  ·subst hR;refine q D _ Hx (hO.trans sx.nil) (mU.sb sx) (hO.kU _ hD) Tp (by simp) (nodup_range fun i j hi hj hn e=>?_) (fun k hk=>?_)
   ·have e1:=(lA i).1;rw [e,(lA j).1] at e1;omega
   ·obtain ⟨i,hi,rfl⟩:=Qx hk;have hi:=List.mem_range.mp hi;exact (lA i).name (by omega) (by omega)
 ·refine ⟨_,Ja,_,Ja,p,cl,_,Ja,mU,by omega,by omega,fun r4 H4 r40 Yt s4 qz=>?_⟩;obtain ⟨at_,rfl⟩:∃ u:Nat,r4=(u:Int):=⟨r4.toNat,by omega⟩;refine cJ ?_;refine ⟨_,Ja,p,cl,26,Ja,qz,by decide,by decide,fun r5 H5 r50 r5m s5 tf=>?_⟩;obtain ⟨bg,rfl⟩:∃ u:Nat,r5=(u:Int):=⟨r5.toNat,by omega⟩;refine cJ ?_;refine ⟨_,Ja,p,cl,3,Ja,tf,by decide,by decide,fun r6 H6 r60 r6m s6 xH=>?_⟩;obtain ⟨sp,rfl⟩:∃ u:Nat,r6=(u:Int):=⟨r6.toNat,by omega⟩;refine ⟨_,_,Ja,Ja,?_⟩;refine cJ ?_;have BK:SB [p] H H6:=((hO.trans s4).trans s5).trans s6
  let wd:Nat->Str:=fun i=>cutS st none (some (at_:Int))++⟨#[97+(bg+i*(1+sp)) % 26]⟩++cutS st (some ((at_+1:Nat):Int)) none
  have la':=(jB.take at_).len;have lb:=(jB.Cv (at_+1)).len;have key:∀ i,ju (wd i) (min at_ (1+Ao)+1+(1+Ao-min (at_+1) (1+Ao))):=fun i=>((jB.take at_).append (ju.one (by omega))).append (jB.Cv (at_+1));refine ⟨_,Ja,_,Ja,by omega,by omega,fun D hD=>?_⟩;rw [Int.toNat_natCast];refine oo walk_range hD (by omega) (fun i us _=>us=((List.range i).map wd).map V.str) rfl (fun _ _=>trivial) (fun _ _ _ _ _ h=>h) (fun Pv i x Hx H' us hi sx y hR hl fin _=>?_) (fun us Hx sx Tp hR hl=>?_)
  ·obtain ⟨rfl,rfl⟩:=y;have e4:((bg:Int)+(0+(i:Int))*(1+(sp:Int))) % 26=(((bg+i*(1+sp)) % 26:Nat):Int):=by
    rw [Int.zero_add]; push_cast; rfl
   refine ⟨rfl,?_⟩;refine ⟨_,Ja,_,Ja,_,Ja,st,Ja,by omega,_,Ja,_,Ja,_,Ja,_,Ja,_,_,Ja,Ja,.inl ⟨by show (-(2 ^ 64):Int) < 0+(i:Int); omega,by show 0+(i:Int) < 2 ^ 64; omega⟩,_,_,rfl,rfl,_,_,rfl,rfl,(by show (0:Int) < 26; decide),tw,_,97+(bg+i*(1+sp)) % 26,rfl,rfl,V0,?_,_,_,rfl,rfl,?_,?_⟩
   ·show atI tw.cps.toList (((bg:Int)+(0+(i:Int))*(1+(sp:Int))) % 26)=_;rw [e4];exact Oe (zd2 _ (by omega))
   ·rw [la']; show _+1<=_; omega
   have ea:(at_:Int)+1=((at_+1:Nat):Int):=by omega
   refine ⟨_,Ja,_,Ja,_,_,Ja,Ja,_,Ja,st,Ja,by omega,_,_,Ja,Ja,?_,?_⟩
   ·show (cutS st none (some (at_:Int))++(⟨#[97+(bg+i*(1+sp)) % 26]⟩:Str)).length+(cutS st (some ((at_:Int)+1)) none).length<=sizeLine;have h1:(cutS st none (some (at_:Int))++(⟨#[97+(bg+i*(1+sp)) % 26]⟩:Str)).length=min at_ (1+Ao)+1:=((jB.take at_).append (ju.one (c:=97+(bg+i*(1+sp)) % 26) (by omega))).len;rw [h1,ea,lb]; omega
   refine fin _ _ SB.refl ?_;rw [hR,List.range_succ,Yj,Yj];show _++[V.str (cutS st none (some (at_:Int))++(⟨#[97+(bg+i*(1+sp)) % 26]⟩:Str)++cutS st (some ((at_:Int)+1)) none)]=_;rw [ea]
   rfl
  ·subst hR;refine q D _ Hx (BK.trans sx.nil) (xH.sb sx) (BK.kU _ hD) Tp (by simp) (nodup_range fun i j hi hj hn e=>?_) (fun k hk=>?_)
   ·have e1:=(jB.take at_).mid (c:=97+(bg+i*(1+sp)) % 26) (b:=cutS st (some ((at_+1:Nat):Int)) none);have e2:=(jB.take at_).mid (c:=97+(bg+j*(1+sp)) % 26) (b:=cutS st (some ((at_+1:Nat):Int)) none);have e':cutS st none (some (at_:Int))++(⟨#[97+(bg+i*(1+sp)) % 26]⟩:Str)++cutS st (some ((at_+1:Nat):Int)) none=cutS st none (some (at_:Int))++(⟨#[97+(bg+j*(1+sp)) % 26]⟩:Str)++cutS st (some ((at_+1:Nat):Int)) none:=e;rw [e',e2] at e1
    injection e1 with e1
    have:sp=0\/sp=1\/sp=2:=by omega
    rcases this with rfl | rfl | rfl <;> omega
   ·obtain ⟨i,hi,rfl⟩:=Qx hk;exact (key i).name (by omega) (by omega)
end
namespace Gr
theorem tO (h:∀ p ∈ bs,p.1.1 ∈ ns/\Named ns p.1.2):Named ns (tidy bs):=aR.mpr fun p hp=>by
 have hp:p ∈ pS aG bs:=by rw [<- aQ (pS aG bs)]; exact hp
 obtain ⟨q,hq,e⟩:=FN (enc:=aG) _ p hp;rw [<- e];exact h q hq
theorem Am (h:bs ≠ []) (pos:∀ p ∈ bs,1<=p.2):tidy bs ≠ .nil:=fun e=>by
 cases bs with
 | nil=>exact h rfl
 | cons p r =>
  have h0:pS aG (p::r)=[]:=by rw [<- aQ (pS aG (p::r))]; show (tidy _).ps=[]; rw [e]; rfl
  have h1:=FA (enc:=aG) (p::r) p.1;rw [h0,oq,if_pos rfl] at h1;have h2:=iE (bs:=r) p.1 fun q hq=>by have:=pos q (bR _ hq); omega
  have h3:=pos p (bM ..);simp only [sumE] at h1;omega
end Gr
section
variable {P:Program} {w:World} {K:Qn} {mg:Str->Option Value} {base:Heap} {f:Addr} {fd:FuncData}
abbrev zja:List Str:=[ai,bx,cO,dQ,cP,"_law_kind","_law_within","_law_inner","_law_way",aM]
theorem gY:FnScope zja [ai,bx,cO,dQ] (defScope Hs):=fS
theorem zdp {ps:List Str}:FnOk P w K mg base CX0 k f fd ps (BA K 0):=tG fun vs H Q E ⟨_,_,_,_,_,_,_,_,_,h,_⟩=>by omega
theorem zib (B:BI mg) (cg:Got P w K mg base bU [ai,aM] (1) (Ai)) (pz:Got P w K mg base aW [ai,bx,cO,dQ] (n+1) (BA K n)) (ly:Got P w K mg base bD [cP] (1) (Fz K)) (F:Fun K aW aW Hs f fd):FnOk P w K mg base CX0 (n+2) f fd [ai,bx,cO,dQ] (BA K (n+1)):=by
 refine F.ok gY (fun vs H Q E h=>?_) (fun _ A _ _ H vs Q E hr h=>?_)
 ·obtain ⟨p,nl,cl,ks,m,c,rfl,_⟩:=h
  rfl
 obtain ⟨p,nl,cl,ks,m,c,rfl,hp,⟨hn,np,k8,F4⟩,hm,m12,c3,c60,q⟩:=h;have bA:=bt hr;refine ⟨_,Qc (ps_set (i:=4) gY.nd rfl (.inl rfl) (pe_lst Qb))
  (Qc (ps_while PassesOwn.never (PW.pt (Kl (pt_cmpR op_gt (pv 2) Qg (nomark _)) (pw_and1 (pt_cmpR (op_neD (ig hr)) (pv 1) (pe_lst Qb) (nomark _))))) (Qc (ps_set (i:=5) gY.nd rfl (.inl rfl) (Qm ix_list (pv 1) (aT cg (Hm hr) rfl (Qa (pv 0) (Qa (Qs call_len_seq rfl B.len PySem.boot_len (Qa (pv 1) Qb)) Qb))) (fun _ _=>rfl)))
  (Qc (ps_set (i:=6) gY.nd rfl (.inl rfl) (aT cg (Hm hr) rfl (Qa (pv 0) (Qa (pv 2) Qb))))
  (Qc (ps_set (i:=7) gY.nd rfl (.inl rfl) (aT pz (Hm hr) rfl (Qa (pv 0) (Qa (pv 1) (Qa (pv 6) (Qa (pv 3) Qb))))))
  (Qc (ps_set (i:=8) gY.nd rfl (.inl rfl) (aT cg (Hm hr) rfl (Qa (pv 0) (Qa Qg Qb))))
  (Qc (ps_set (i:=9) gY.nd rfl (.inl rfl) (Qm ix_list (pe_lst (Qa Qg (Qa Qg (Qa Qg Qb)))) (pe_op op_mod (pv 8) Qg) (fun _ _=>rfl)))
  (Qc (Qr (pt_cmpR op_eq (pv 8) Qg (nomark _)) (Qe (ps_set (i:=9) gY.nd rfl (.inl rfl) (pe_op Ko Qg (aT cg (Hm hr) rfl (Qa (pv 0) (Qa (pv 3) Qb)))))) pss_nil)
  (Qc (Kf (Kn Ki PySem.F.slot_list_append PySem.F.type_list_append mt_append (pv 4) (Qa (Ka (Qa (Ka (Qa (pv 5) (Qa (pv 7) Qb))) (Qa (pv 9) Qb))) Qb)))
  (Qe (ps_set (i:=2) gY.nd rfl (.inl rfl) (pe_op op_sub (pe_op op_sub (pv 2) Qg) (pv 6))))))))))))
  (Qe (Qj (aT ly (Hm hr) rfl (Qa (pv 4) Qb))))),?_⟩
 have jy:=sizeLine_eq;refine ⟨Z0,fun D nD=>?_⟩;have t1:=Jb nD (.lst []);have oi:=eZ t1;have gq:=hp.sb t1;have pD:=hp.ne nD;have cD:=hp.nc nD;have Ac:=t1.keep _ _ hn aP;have nDl:nl ≠ D:=ne_of_none hn nD;generalize upd H D _=H1 at t1 oi gq Ac;refine cJ ?_
 let Pv:Nat->L2.St->Hp->Prop:=fun k σ H2=>SB [p,D] H1 H2/\cu H2 p cl/\∃ (us:List V) (acc:List (Tr × Int)) (o5 o6 o7 o8 o9:Option V),σ=[some (.ref p),some (.ref nl),some (.int (k:Int)),some (.int c),some (.ref D),o5,o6,o7,o8,o9]/\H2 D=some (.lst us)/\Bears K H2 Gr.aB us acc/\Gr.tot acc+k<=m/\(k < m->acc ≠ [])/\bZ acc<=acc.length*c/\∀ x ∈ acc,(dE x.1.1/\x.1.2.Ok (m*c+1)/\1<=x.2)/\x.1.2.deep < m/\x.1.1 ∈ ks/\Gr.Named ks x.1.2
 refine ⟨Pv,⟨m,SB.refl,gq,[],[],none,none,none,none,none,Ja,oi,.nil,by show 0+m<=m; omega,fun h=>by omega,by simp [bZ],fun x hx=>nomatch hx⟩,fun k σ H2 h=>?_⟩;obtain ⟨s2,eT,us,acc,o5,o6,o7,o8,o9,rfl,aV,bS,tk,ne,al,good⟩:=h;have vr:=s2.keep _ _ Ac (by simp [np,nDl]);have yda:=Gr.qj acc;have usl:=bS.length;have done:(k=0\/ks=[])->∀ H3,SB [] H2 H3->tRet (tCall (Fz K) [] E0 (tCons (tVar 4) tNil)) { nx:=fun x H'=>Q V.non H',rt:=Q } [some (.ref p),some (.ref nl),some (.int (k:Int)),some (.int c),some (.ref D),o5,o6,o7,o8,o9] H3:=fun JG H3 s3=>by
  have bH:=s3.keep _ _ aV aP;have hO:SB [p] H H3:=((t1.nil.trans (s2.trans s3.nil)).mono (qs:=[D,p]) (by simp)).drop nD;refine ⟨_,Ja,D,us,acc,Ja,.inl (SqL.of bH),bS.sb s3 Gr.aa,by omega,⟨m*c+1,fun x hx=>⟨(good x hx).1.1,(good x hx).1.2.1,by have:=(good x hx).2.1; omega⟩⟩,fun v H' s4 hv=>?_⟩;have hle:(acc.length:Int)*c<=(m:Int)*c:=Int.mul_le_mul_of_nonneg_right (by omega) (by omega);refine q v _ H' (hO.trans s4.nil) ((eT.sb s3).sb s4) hv (Gr.pQ (fun x hx=>(good x hx).1) (by omega) (Kw _)) (Yb (Gr.jb acc) (by omega)) (Gr.kz fun x hx=>(good x hx).2.1) (Gr.tO fun x hx=>(good x hx).2.2) fun m1 kn=>Gr.Am (ne ?_) fun x hx=>(good x hx).1.2.2;rcases JG with h | h
  ·omega
  ·exact absurd h kn
 refine ⟨_,Ja,_,_,Ja,Ja,_,Ja,?_⟩;by_cases k0:0 < k
 ·rw [Ya (show (0:Int) < (k:Int) by omega)];refine iteT ?_;refine ⟨_,Ja,Z0,fun e0 RE=>?_⟩;have t3:=Jb RE (.lst []);have yN:SqL K (upd H2 e0 (.lst [])) e0 []:=SqL.of Qt;have wZ:=t3.keep _ _ vr aP;have mU:=eT.sb t3;have bH:=t3.keep _ _ aV aP;generalize upd H2 e0 _=H3 at t3 yN wZ mU bH;refine ⟨.list (ks.map .str),.list [],Dp.lst (SqL.of wZ) (Xs _).dp,Dp.lst yN .nil,z9v F4,by decide +kernel,_,Ja,?_⟩;rw [zf1];by_cases kn:ks=[]
  ·rw [Ya kn];exact done (.inr kn) H3 t3
  rw [Qz kn];have kl:0 < ks.length:=List.length_pos_iff.mpr kn;refine ⟨fun σ' H'=>∃ k',k' < k/\Pv k' σ' H',fun σ' H' z=>z,?_⟩;refine ⟨_,Ja,_,Ja,_,Ja,nl,_,Ja,.inl (SqL.of wZ),p,cl,_,Ja,mU,by rw [Ye]; omega,by rw [Ye]; omega,fun r4 H4 r40 Yt s4 qz=>?_⟩;obtain ⟨u,rfl⟩:∃ u:Nat,r4=(u:Int):=⟨r4.toNat,by omega⟩;rw [Ye] at Yt;have eu:ks[u]?=some ks[u]:=Kp (by omega);generalize hkk:ks[u]=kk at eu;have YM:=Qu eu;have OT:=s4.keep _ _ wZ (by simp [np]);refine ⟨nl,_,_,_,Ja,Ja,SqL.of OT,atI_nat (j:=u) (by rw [List.getElem?_map,eu]; rfl),?_⟩;refine cJ ?_;refine ⟨_,Ja,_,Ja,p,cl,_,Ja,qz,by omega,by omega,fun r5 H5 r50 r5m s5 tf=>?_⟩;obtain ⟨wn,rfl⟩:∃ u:Nat,r5=(u:Int):=⟨r5.toNat,by omega⟩;refine cJ ?_;have JI:=s5.keep _ _ OT (by simp [np]);refine ⟨_,Ja,_,Ja,_,Ja,_,Ja,p,nl,cl,ks,wn,c,Ja,tf,⟨JI,np,k8,F4⟩,by omega,by omega,c3,c60,fun v g H6 s6 xH hg xN gpt gdp Ce _=>?_⟩;refine cJ ?_;refine ⟨_,Ja,p,cl,4,Ja,xH,by decide,by decide,fun wy H7 wy0 wy4 s7 BV=>?_⟩;refine cJ ?_;refine ⟨Gn,fun L nL=>?_⟩;have t8:=Jb nL (.lst [.int 1,.int 2,.int 3]);have B9:=eZ t8;have AV:=BV.sb t8;generalize upd H7 L _=H8 at t8 B9 AV;obtain ⟨mv,emv,mv1,mv3⟩:∃ mv:Int,atI [V.int 1,V.int 2,V.int 3] (wy % 3)=some (.int mv)/\1<=mv/\mv<=3:=by
   rcases (by omega:wy % 3=0\/wy % 3=1\/wy % 3=2) with z | z | z <;> rw [z]
   ·exact ⟨1,Ja,by omega,by omega⟩
   ·exact ⟨2,Ja,by omega,by omega⟩
   ·exact ⟨3,Ja,by omega,by omega⟩
  refine ⟨_,Ja,_,_,Ja,Ja,(by show (0:Int) < 3; decide),L,_,_,_,rfl,rfl,SqL.of B9,emv,?_⟩;refine cJ ?_;have s38:SB [p] H3 H8:=(((s4.trans s5).trans s6).trans s7).trans t8.nil;have s68:SB [p] H6 H8:=s7.trans t8.nil;dsimp only;refine Fx (fun σ' G=>∃ mz:Int,σ'=[some (.ref p),some (.ref nl),some (.int (k:Int)),some (.int c),some (.ref D),some (.str kk),some (.int (wn:Int)),some v,some (.int wy),some (.int mz)]/\SB [p] H8 G/\cu G p cl/\1<=mz/\mz<=c) (fun nx oO=>?_) (fun σ' G h=>?_)
  ·refine ⟨_,Ja,Ja,_,Ja,?_⟩;cases decide (V.int wy=V.int 3) with
   | false=>exact iteF (oO _ _ ⟨mv,Ja,SB.refl,AV,by omega,by omega⟩)
   | true =>
    refine iteT ⟨_,Ja,_,Ja,p,cl,_,Ja,AV,by omega,Int.lt_of_le_of_lt c60 (by decide +kernel),fun r9 H9 r90 r9m s9 BU=>?_⟩;exact ⟨_,_,Ja,Ja,cJ (oO _ _ ⟨1+r9,Ja,s9,BU,by omega,by omega⟩)⟩
  obtain ⟨mz,rfl,s9,BU,mz1,mzc⟩:=h;have Yl:SB [p] H3 G:=s38.trans s9;have As:SB [p] H6 G:=s68.trans s9;have ZA:=Yl.keep _ _ bH (by simpa using fun z:D=p=>pD z.symm);have OV:=hg.sb As;refine ⟨_,Ja,.inl ⟨rfl,_,SqL.of ZA⟩,_,Ja,_,Ja,dY,fun T1 n1=>?_⟩;have kj:=Jb n1 (.tup [.str kk,v]);have B5:=iV (K:=K) kj;have Bi:=kj.keep _ _ ZA aP;have sy:=BU.sb kj;have JX:=OV.sb kj;generalize upd G T1 _=xO at kj B5 Bi sy JX;refine ⟨_,Ja,dY,fun T2 n2=>?_⟩;have nQ:=Jb n2 (.tup [.ref T1,.int mz]);have sG:=iV (K:=K) nQ;have KP:=nQ.aL B5;have Er:=nQ.keep _ _ Bi aP;have mV:=sy.sb nQ;have JW:=JX.sb nQ;generalize upd xO T2 _=CB at nQ sG KP Er mV JW;refine ⟨D,us,_,Ja,Ja,Er,by omega,?_⟩;have pT:=SB.set (ps:=[D]) Er (by simp) (.lst (us++[.ref T2]));have KY:upd CB D (.lst (us++[.ref T2])) D=some (.lst (us++[.ref T2])):=Qt;have sv:=mV.keep pT (by simpa using pD) (by simpa using cD);generalize upd CB D _=UL at pT KY sv;have IF:SB [p] H2 CB:=(t3.nil.trans Yl).trans (kj.trans nQ).nil;have Q0:SB [p,D] H2 UL:=(IF.mono (by simp)).trans (pT.mono (by simp));refine ⟨_,Ja,_,_,Ja,Ja,_,Ja,_,_,Ja,Ja,?_⟩;have ek:(k:Int)-1-(wn:Int)=((k-1-wn:Nat):Int):=by omega
  refine cJ ⟨k-1-wn,by omega,s2.trans Q0,sv,us++[.ref T2],acc++[((kk,g),mz)],_,_,_,_,_,by rw [<- ek]; rfl,KY,?_,?_,fun _=>by simp,?_,fun x hx=>?_⟩
  ·exact ((bS.sb IF Gr.aa).sb pT Gr.aa).append (.cons (Dp.tup (pT.aL sG) (.cons (Dp.tup (pT.aL KP) (.cons (.str _) (.cons (JW.sb pT) .nil))) (.cons (.int _) .nil))) .nil)
  ·rw [Gr.aX];have:Gr.tot [((kk,g),mz)]=1+g.parts+0:=rfl;omega
  ·rw [Ir,Yf,Yi];have h1:bZ [((kk,g),mz)]=mz+0:=rfl;have h2:((acc.length+1:Nat):Int)*c=acc.length*c+c:=by rw [Int.natCast_add,Int.add_mul]; simp
   omega
  ·rcases Qw hx with hx | hx
   ·exact good x hx
   ·rw [Qy hx];have hle:(wn:Int)*c<=(m:Int)*c:=Int.mul_le_mul_of_nonneg_right (by omega) (by omega);exact ⟨⟨F4 kk YM,xN.mono (by omega),mz1⟩,by show g.deep < m; omega,YM,Ce⟩
 ·rw [Qz (show ¬ (0:Int) < (k:Int) by omega)];exact iteF (done (.inl (by omega)) H2 SB.refl)
abbrev UC:List Str:=[ai,tA,bx,ay,"_law_k",bV,"_law_rules","_law_spreads","_law_turn",cO,"_law_each","_law_once"]
theorem iF:FnScope UC [ai,tA] (defScope yd):=fS
theorem zje (B:BI mg) (Nq:Got P w K mg base fm [ai,aM] (2) (WL K)) (cg:Got P w K mg base bU [ai,aM] (1) (Ai)) (pz:Got P w K mg base aW [ai,bx,cO,dQ] (14) (BA K 13)) (F:Fun K b6 b6 yd f fd):FnOk P w K mg base CX0 (16) f fd [ai,tA] (V8 K):=by
 refine F.ok iF (fun vs H Q E h=>?_) (fun _ A _ _ H vs Q E hr h=>?_)
 ·obtain ⟨p,cl,m,rfl,_⟩:=h
  rfl
 obtain ⟨p,cl,m,rfl,hp,m1,m6,q⟩:=h;have bA:=bt hr;refine ⟨_,Qc (ps_set (i:=2) iF.nd rfl (.inl rfl) (aT Nq (Hm hr) rfl (Qa (pv 0) (Qa (pe_op Ko Qg (aT cg (Hm hr) rfl (Qa (pv 0) (Qa (pv 1) Qb)))) Qb))))
  (Qc (ps_set (i:=3) iF.nd rfl (.inl rfl) pe_dnewK)
  (Qc (ps_for PassesOwn.never rfl (pi_enum rfl B.enumerate (Qa (pv 2) Qb)) (pg_tup rfl (Qi (pg_name (i:=4) iF.nd rfl (.inl rfl)) (Qi (pg_name (i:=5) iF.nd rfl (.inl rfl)) pgs_nil)))
   (Qc (ps_set (i:=6) iF.nd rfl (.inl rfl) (pe_lst Qb))
  (Qc (ps_set (i:=7) iF.nd rfl (.inl rfl) (pe_cmpR op_eq (aT cg (Hm hr) rfl (Qa (pv 0) (Qa Qg Qb))) Qg (nomark _)))
  (Qc (ps_for PassesOwn.never rfl (pi_range1 rfl B.range (Qa (Qm ix_list (pe_lst (Qa Qg (Qa Qg (Qa Qg (Qa Qg (Qa Qg Qb)))))) (aT cg (Hm hr) rfl (Qa (pv 0) (Qa Qg Qb))) (fun _ _=>rfl)) Qb)) (pg_name (i:=8) iF.nd rfl (.inl rfl))
   (Qc (ps_set (i:=9) iF.nd rfl (.inl rfl) (aT cg (Hm hr) rfl (Qa (pv 0) (Qa Qg Qb))))
  (Qc (ps_set (i:=10) iF.nd rfl (.inl rfl) (aT cg (Hm hr) rfl (Qa (pv 0) (Qa (pe_op Ko (pv 9) Qg) Qb))))
  (Qc (ps_set (i:=11) iF.nd rfl (.inl rfl) (aT pz (Hm hr) rfl (Qa (pv 0) (Qa (pe_slice sl_list (pv 2) po_none (po_some (pv 4))) (Qa (pe_op op_sub (pv 9) (pv 10)) (Qa (pe_op op_mul Qg (pe_op op_pow Qg Qg)) Qb))))))
  (Qe (Kf (Kn Ki PySem.F.slot_list_append PySem.F.type_list_append mt_append (pv 6) (Qa (Ka (Qa (pv 11) (Qa (aT pz (Hm hr) rfl (Qa (pv 0) (Qa (pe_slice sl_list (pv 2) po_none (po_some (pv 4))) (Qa (pv 10) (Qa (pe_op op_mul Qg (pe_op op_pow Qg Qg)) Qb))))) Qb))) Qb))))))))
  (Qe (ps_dput (u1 hr) (pv 3) (pv 5) (Ka (Qa (pv 7) (Qa (pv 6) Qb))) rfl))))))
  (Qe (Qj (pv 3))))),?_⟩
 have jy:=sizeLine_eq;refine ⟨_,Ja,_,Ja,_,Ja,p,cl,_,Ja,hp,by omega,by omega,fun r1 H1 Rn r1m s1 gq=>?_⟩;obtain ⟨mn,rfl⟩:∃ u:Nat,r1=(u:Int):=⟨r1.toNat,by omega⟩;have em:(1:Int)+(mn:Int)=((1+mn:Nat):Int):=by omega
 refine ⟨_,_,Ja,Ja,p,cl,1+mn,(by show [V.ref p,V.int ((1:Int)+(mn:Int))]=_; rw [em]),gq,by omega,by omega,fun nl ks H2 s2 eT nnl vr kl knd F4=>?_⟩;refine cJ ?_;have FY:nl ≠ p:=fun z=>gq.ne nnl z.symm;intro D nD;have t3:=Jb nD (.dK []);have bH:upd H2 D (.dK []) D=some (.dK (jT (Bk.names []) [])):=Qt;have wZ:=t3.keep _ _ vr aP;have mU:=eT.sb t3;have pD:=eT.ne nD;have cD:=eT.nc nD;have YC:nl ≠ D:=ne_of_none vr nD;have hO:SB [p] H (upd H2 D (.dK [])):=(s1.trans s2).trans t3.nil;have OJ:H D=none:=(s1.trans s2).kU _ nD;generalize upd H2 D _=H3 at t3 bH wZ mU hO;refine cJ ?_;refine ⟨_,Ja,nl,_,Ja,SqL.of wZ,?_⟩;refine for_it (walk_enum (K:=K) (a:=nl) (xs:=ks.map V.str)) (fun i σ H4=>SB [p,D] H3 H4/\cu H4 p cl/\∃ (us:List V) (b:Bk) (o4 o5 o6 o7 o8 o9 xC Dt:Option V),σ=[some (.ref p),some (.int (m:Int)),some (.ref nl),some (.ref D),o4,o5,o6,o7,o8,o9,xC,Dt]/\H4 D=some (.dK (jT b.names us))/\z0q (CA K H4) us b/\b.names=ks.take i/\(∀ k ∈ b,k.rs.length<=4/\∀ r ∈ k.rs,dV r/\r.1.parts+r.2.parts<=3)/\∀ (j:Nat) (k:Kd),b[j]?=some k->∀ r ∈ k.rs,∀ x ∈ Ru.within r,x.1.1 ∈ ks.take j)
  ⟨SB.refl,mU,[],[],none,none,none,none,none,none,none,none,rfl,bH,.nil,by simp,(fun k hk=>nomatch hk),(fun j k h=>by simp at h)⟩ (fun i σ H4 hi h=>h.1.fO (by simp [FY,YC]) (SqL.of wZ)) (fun i x σ H4 H' hi h y=>?_) (fun σ H4 h=>?_)
 ·obtain ⟨s4,qz,us,b,o4,o5,o6,o7,o8,o9,xC,Dt,rfl,jD,fy,bn,good,Pe⟩:=h;obtain ⟨T,x1,y1,rfl,hT,rfl,ex,ey⟩:=y;have ex:some (V.int (i:Nat))=some x1:=ex;cases ex;have ey:(ks.map V.str)[i]?=some y1:=ey;rw [List.getElem?_map] at ey;rw [Ye] at hi;obtain ⟨nm,en,rfl⟩:=Kr ey;have OT:=s4.keep _ _ wZ (by simp [FY,YC]);have t5:=Jb hT (.tup [.int (i:Nat),.str nm]);have xf:=eZ t5;have tf:=qz.sb t5;have JI:=t5.keep _ _ OT aP;have eQ:=t5.keep _ _ jD aP;generalize upd H4 T _=H5 at t5 xf tf JI eQ;refine ⟨T,_,Ja,SqT.of xf,Ja,_,_,Ja,_,_,Ja,Ja,?_⟩;refine ⟨Z0,fun R nR=>?_⟩;have t6:=Jb nR (.lst []);have O2:=eZ t6;have xH:=tf.sb t6;have Y4:=t6.keep _ _ JI aP;have ie:=t6.keep _ _ eQ aP;have pR:=tf.ne nR;have cR:=tf.nc nR;have nlR:nl ≠ R:=ne_of_none JI nR;have DR:D ≠ R:=ne_of_none eQ nR;generalize upd H5 R _=H6 at t6 O2 xH Y4 ie;refine cJ ?_;refine ⟨_,Ja,p,cl,2,Ja,xH,by decide,by decide,fun r7 H7 _ _ s7 BV=>?_⟩;refine ⟨rfl,?_⟩;generalize decide (V.int r7=V.int 1)=wd;refine cJ ?_;refine ⟨by show 5<=sizeLine; decide,fun L nL=>?_⟩;have t8:=Jb nL (.lst [.int 0,.int 1,.int 1,.int 2,.int 3]);have B9:=eZ t8;have AV:=BV.sb t8;have Lp:=BV.ne nL;generalize upd H7 L _=H8 at t8 B9 AV;refine ⟨_,Ja,p,cl,5,Ja,AV,by decide,by decide,fun r9 H9 r90 r95 s9 BU=>?_⟩;obtain ⟨ct,ect,ct3⟩:∃ ct:Nat,atI [V.int 0,.int 1,.int 1,.int 2,.int 3] r9=some (.int (ct:Int))/\ct<=3:=by
   rcases (by omega:r9=0\/r9=1\/r9=2\/r9=3\/r9=4) with h | h | h | h | h <;> subst h
   ·exact ⟨0,Ja,by omega⟩
   ·exact ⟨1,Ja,by omega⟩
   ·exact ⟨1,Ja,by omega⟩
   ·exact ⟨2,Ja,by omega⟩
   ·exact ⟨3,Ja,by omega⟩
  have As:SB [p] H6 H9:=(s7.trans t8.nil).trans s9;refine ⟨L,_,_,_,Ja,Ja,SqL.of (s9.keep _ _ B9 (by simpa using fun z:L=p=>Lp z.symm)),ect,(ct:Int),Ja,by omega,by omega,?_⟩;rw [Int.toNat_natCast];have hR9:=As.keep _ _ O2 (by simpa using fun z:R=p=>pR z.symm);refine for_it walk_range (fun j σ Ha=>SB [R,p] H9 Ha/\cu Ha p cl/\∃ (vs:List V) (rs:List Ru) (o8 o9 xC Dt:Option V),σ=[some (.ref p),some (.int (m:Int)),some (.ref nl),some (.ref D),some (.int (i:Int)),some (.str nm),some (.ref R),some (.bl wd),o8,o9,xC,Dt]/\Ha R=some (.lst vs)/\Bears K Ha Ru.enc vs rs/\rs.length<=j/\∀ r ∈ rs,dV r/\r.1.parts+r.2.parts<=3/\∀ x ∈ Ru.within r,x.1.1 ∈ ks.take i)
   ⟨SB.refl,BU,[],[],_,_,_,_,rfl,hR9,.nil,Yc _,fun r hr=>nomatch hr⟩ (fun _ _ _ _ _=>trivial) (fun j x σ Ha H' hj h8 y=>?_) (fun σ Ha h8=>?_)
  ·obtain ⟨sa,lP,vs,rs,o8,o9,xC,Dt,rfl,O1,gH,rl,DP⟩:=h8;obtain ⟨rfl,rfl⟩:=y;have Y3:H' nl=some (.lst (ks.map V.str)):=sa.keep _ _ (As.keep _ _ Y4 (by simpa using FY)) (by simp [nlR,FY]);refine zfn ?_;refine ⟨_,Ja,p,cl,4,Ja,lP,by decide,by decide,fun rm Hb rm0 rm4 sb qV=>?_⟩;obtain ⟨pm,rfl⟩:∃ u:Nat,rm=(u:Int):=⟨rm.toNat,by omega⟩;refine cJ ?_;refine ⟨_,Ja,_,Ja,_,_,Ja,Ja,p,cl,(pm:Int)+1,Ja,qV,by omega,by omega,fun re Hc re0 rem sc Aa=>?_⟩;obtain ⟨eh,rfl⟩:∃ u:Nat,re=(u:Int):=⟨re.toNat,by omega⟩;refine cJ ?_;have X6:SB [p] H' Hc:=sb.trans sc;have Y2:=X6.keep _ _ Y3 (by simpa using FY);have e8:(3:Int)*10 ^ (8:Int).toNat=300000000:=by decide
   have kt:∀ x ∈ ks.take i,dE x:=fun x hx=>F4 x (List.mem_of_mem_take hx);have YL:(ks.take i).length<=8:=by rw [Kx]; omega
   refine ⟨_,Ja,_,Ja,_,Ja,_,Ja,nl,_,Ja,SqL.of Y2,fun S nS=>?_⟩;have kj:=Jb nS (.lst (cutV (ks.map V.str) none (some (i:Int))));have hS:upd Hc S (.lst (cutV (ks.map V.str) none (some (i:Int)))) S=some (.lst ((ks.take i).map V.str)):=by rw [Qt,N1,List.map_take]
   have sy:=Aa.sb kj;have Sp:S ≠ p:=fun z=>Aa.ne nS z.symm;have Sr:=kj.keep _ _ Y2 aP;generalize upd Hc S _=Hd at kj hS sy Sr;have emo:(pm:Int)-(eh:Int)=((pm-eh:Nat):Int):=by omega
   refine ⟨_,Ja,_,Ja,_,_,Ja,Ja,10,8,Ja,Ja,⟨by decide,by decide⟩,_,_,Ja,Ja,.inl ⟨by decide,by decide⟩,p,S,cl,ks.take i,pm-eh,300000000,(by show [V.ref p,V.ref S,V.int ((pm:Int)-(eh:Int)),V.int (3*10 ^ (8:Int).toNat)]=_; rw [emo,e8]),sy,⟨hS,Sp,YL,kt⟩,by omega,by omega,by decide,by decide,fun v1 g1 He se YZ BY ok1 pt1 dp1 nm1 _=>?_⟩;refine cJ ?_;have QW:SB [p] H' He:=(X6.trans kj.nil).trans se;have Zt:=QW.keep _ _ O1 (by simpa using fun z:R=p=>pR z.symm);have n6:=QW.keep _ _ Y3 (by simpa using FY);refine ⟨_,Ja,.inl ⟨rfl,_,SqL.of Zt⟩,_,Ja,_,Ja,_,Ja,_,Ja,_,Ja,nl,_,Ja,SqL.of n6,fun S2 YH=>?_⟩;have nQ:=Jb YH (.lst (cutV (ks.map V.str) none (some (i:Int))));have O0:upd He S2 (.lst (cutV (ks.map V.str) none (some (i:Int)))) S2=some (.lst ((ks.take i).map V.str)):=by rw [Qt,N1,List.map_take]
   have mV:=YZ.sb nQ;have S2p:S2 ≠ p:=fun z=>YZ.ne YH z.symm;have Tf:=nQ.keep _ _ Zt aP;generalize upd He S2 _=Hf at nQ O0 mV Tf;refine ⟨_,Ja,10,8,Ja,Ja,⟨by decide,by decide⟩,_,_,Ja,Ja,.inl ⟨by decide,by decide⟩,p,S2,cl,ks.take i,eh,300000000,(by show [V.ref p,V.ref S2,V.int (eh:Int),V.int (3*10 ^ (8:Int).toNat)]=_; rw [e8]),mV,⟨O0,S2p,YL,kt⟩,by omega,by omega,by decide,by decide,fun v2 g2 Hg sg hpg Eb ok2 pt2 dp2 nm2 _=>?_⟩;refine ⟨dY,fun T2 yx=>?_⟩;have QV:SB [p] H' Hg:=(QW.trans nQ.nil).trans sg;have seg:SB [p] He Hg:=nQ.nil.trans sg;have hRg:=QV.keep _ _ O1 (by simpa using fun z:R=p=>pR z.symm);have BG:=Jb yx (.tup [v1,v2]);have KO:=iV (K:=K) BG;have Eo:=BG.keep _ _ hRg aP;have En:=(gH.sb QV Ru.aj).sb BG Ru.aj;have JY:=GA.sb (GA.sb BY seg) BG;have JU:=GA.sb Eb BG;have DW:=hpg.sb BG;generalize upd Hg T2 _=Hh at BG KO Eo En JY JU DW;have vl:=En.length;refine ⟨R,_,_,Ja,Ja,Eo,by omega,?_⟩;have FU:=SB.set (ps:=[R]) Eo (by simp) (.lst (vs++[.ref T2]));refine ⟨sa.trans (((QV.trans BG.nil).mono (by simp)).trans (FU.mono (by simp))),DW.keep FU (by simpa using pR) (by simpa using cR),vs++[.ref T2],rs++[(g1,g2)],_,_,_,_,Ja,Qt,?_,by rw [Yf,Yi]; omega,fun r hr=>?_⟩
   ·exact (En.sb FU Ru.aj).append (.cons (.tup (FU.aL KO) (.cons (GA.sb JY FU) (.cons (GA.sb JU FU) .nil))) .nil)
   ·rcases Qw hr with hr | hr
    ·exact DP r hr
    ·rw [Qy hr];refine ⟨⟨ok1.mono (by omega),ok2.mono (by omega),by show g1.parts+g2.parts<=4; omega⟩,by show g1.parts+g2.parts<=3; omega,fun x hx=>?_⟩;rcases Qw hx with hx | hx
     ·exact nm1 x hx
     ·exact nm2 x hx
  obtain ⟨sa,lP,vs,rs,o8,o9,xC,Dt,rfl,O1,gH,rl,DP⟩:=h8;have s6a:SB [R,p] H6 Ha:=(As.mono (by simp)).trans sa;have X8:SB [p] H5 Ha:=((t6.nil (ps:=[R,p])).trans s6a).drop nR;have hDa:=X8.keep _ _ eQ (by simpa using fun z:D=p=>pD z.symm);refine ⟨_,Ja,_,Ja,dY,fun T3 RL=>?_⟩;have C7:=Jb RL (.tup [.bl wd,.ref R]);have KN:=iV (K:=K) C7;have O7:=C7.keep _ _ hDa aP;have Zu:=C7.keep _ _ O1 aP;have gG:=gH.sb C7 Ru.aj;have qV:=lP.sb C7;have QZ:SB [p] H4 (upd Ha T3 (.tup [.bl wd,.ref R])):=((t5.nil (ps:=[p])).trans X8).trans C7.nil;generalize upd Ha T3 _=Hb at C7 KN O7 Zu gG qV QZ;have ul:=fy.length;have bl:b.names.length=i:=by rw [bn,Kx]; omega
  have bl2:b.length=i:=by rw [<- bl]; exact (List.length_map ..).symm
  have fresh:nm ∉ b.names:=fun z=>by
   rw [bn] at z;obtain ⟨j,hj,ej⟩:=List.getElem_of_mem z;rw [List.getElem_take] at ej;rw [Kx] at hj;obtain ⟨SE,e2⟩:=List.getElem_of_getElem? en;exact List.pairwise_iff_getElem.mp knd j i (by omega) SE (by omega) (ej.trans e2.symm)
  have zl:(jT b.names us).length < sizeLine:=by
   show (List.zipWith _ _ _).length < _;rw [List.length_zipWith]; omega
  refine ⟨_,Ja,_,Ja,D,_,Ja,DPut.k (k:=Sum.inr nm) O7 zl,?_⟩;have FR:=SB.kE (ps:=[D]) O7 (by simp) (.dK (putK (jT b.names us) (Sum.inr nm) (.ref T3)));have hDc:upd Hb D (.dK (putK (jT b.names us) (Sum.inr nm) (.ref T3))) D=some (.dK (jT (Bk.names (b++[⟨nm,wd,rs⟩])) (us++[.ref T3]))):=by
   rw [Qt,zfo (by rw [ul,bl2,bl]) fresh];show _=some (HO.dK (jT (List.map _ (b++[_])) _));rw [Yj]; rfl
  have RD:R ≠ D:=fun z=>DR z.symm;have Sm:=qV.keep FR (by simpa using pD) (by simpa using cD);have noD:kr Hb [D]:=kr.one O7;have FX:kr H4 [p]:=by obtain ⟨aS,h⟩:=qz.DI; exact kr.one h
  refine ⟨s4.trans ((QZ.mono (by simp)).trans (FR.mono (by simp))),Sm,us++[.ref T3],b++[⟨nm,wd,rs⟩],_,_,_,_,_,_,_,_,Ja,hDc,?_,?_,fun k hk=>?_,fun j k Ea=>?_⟩
  ·refine (fy.mono fun v k h=>(h.sb QZ FX).sb FR noD).append (.cons ⟨T3,R,vs,Ja,FR.aL KN,FR.keep _ _ Zu (by simpa using RD),gG.sb FR Ru.aj⟩ .nil)
  ·rw [Bk.names,Yj,Yg,en];show Bk.names b++[nm]=_;rw [bn]; rfl
  ·rcases Qw hk with hk | hk
   ·exact good k hk
   ·rw [Qy hk]; exact ⟨by show rs.length<=4; omega,fun r hr=>⟨(DP r hr).1,(DP r hr).2.1⟩⟩
  ·rcases Nat.lt_or_ge j b.length with h | h
   ·rw [List.getElem?_append_left h] at Ea;exact Pe j k Ea
   ·rw [List.getElem?_append_right h] at Ea;have hj0:j-b.length=0:=by
     rcases Nat.eq_zero_or_pos (j-b.length) with z | z
     ·exact z
     ·rw [List.getElem?_eq_none (by rw [Yi]; omega)] at Ea; cases Ea
    rw [hj0] at Ea;cases Ea;have:j=i:=by omega
    subst this;exact fun r hr=>(DP r hr).2.2
 ·obtain ⟨s4,qz,us,b,o4,o5,o6,o7,o8,o9,xC,Dt,rfl,jD,fy,bn,good,Pe⟩:=h;rw [Ye,Yh] at bn;have bl:b.length=ks.length:=by rw [<- bn]; exact (List.length_map ..).symm
  have DZ:∀ k ∈ b,k.n ∈ ks:=fun k hk=>by rw [<- bn]; exact Ku ⟨k,hk,Ja⟩
  have tc:SB [p] H H4:=((hO.mono (qs:=[D,p]) (by simp)).trans (s4.mono (by simp))).drop OJ;refine ⟨_,Ja,q D b H4 tc qz OJ (fun z=>pD z.symm) ⟨us,jD,fy⟩ ⟨⟨by omega,by omega,by rw [bn]; exact knd,fun k hk=>⟨F4 _ (DZ k hk),(good k hk).1,fun r hr=>⟨((good k hk).2 r hr).1,fun x hx=>?_⟩⟩⟩,by omega,fun i k e r hr x hx=>?_,fun k hk r hr=>((good k hk).2 r hr).2⟩⟩
  ·obtain ⟨j,e⟩:=List.getElem?_of_mem hk;rw [bn];exact List.mem_of_mem_take (Pe j k e r hr x hx)
  ·have:=Pe i k e r hr x hx;rw [Bk.names,List.map_take];rw [<- bn] at this;exact this
end
theorem KdAll.IB {K:Qn} {H:Hp} {bad:List Addr} {D:Addr} {od:Obj} {aS:List (Key × V)} {u:HO} (h:H D=some (.frz od (.dK aS))):∀ {vs:List V} {b:Bk},KdAll K H bad vs b->KdAll K (upd H D u) bad vs b
 | _,_,.nil=>.nil
 | _,_,.cons ⟨t,l,zs,e1,e2,e3,e4,e5⟩ r=>.cons ⟨t,l,zs,e1,V4 h _ _ e2,by rw [upd_ne (fun z=>by rw [z,h] at e3; cases e3)]; exact e3,e4.tp (V4 h) Ru.aj,e5⟩ (KdAll.IB h r)
theorem KdAll.rev {K:Qn} {H:Hp} {bad:List Addr}:∀ {vs:List V} {b:Bk},KdAll K H bad vs b->KdAll K H bad vs.reverse b.reverse
 | _,_,.nil=>.nil
 | _,_,.cons h r=>by
  rw [List.reverse_cons,List.reverse_cons];exact (KdAll.rev r).append (.cons h .nil)
section
variable {P:Program} {w:World} {K:Qn} {mg:Str->Option Value} {base:Heap} {f:Addr} {fd:FuncData}
abbrev Vi:List Str:=[ay,lS,bE,bV,"_law_spreads","_law_rules"]
theorem mh:FnScope Vi [ay,lS] (defScope E9):=fS
theorem zhk (B:BI mg) (F:Fun K fq fq E9 f fd):FnOk P w K mg base CX0 (1) f fd [ay,lS] (Wm K):=by
 refine F.ok mh (fun vs H Q E h=>?_) (fun _ A _ s H vs Q E hr h=>?_)
 ·obtain ⟨d,b,t,rfl,_⟩:=h
  rfl
 obtain ⟨d,b,t,rfl,hd,yc8,q⟩:=h;have bA:=bt hr;refine ⟨_,Qc (ps_lock (ps_setLc (i:=2) (own:=[(bV,3),("_law_spreads",4),("_law_rules",5)]) (g:=(gTup K 2 (gCons (gName 3) (gCons (gTup K 2 (gCons (gName 4) (gCons (gName 5) gNil))) gNil)))) (tt:=tYes) (te:=(tTup (tCons (tVar 3) (tCons (tVar 4) (tCons (tCB (fun xs H Q=>∃ p ys,xs=[.ref p]/\(SqL K H p ys\/SqT K H p ys)/\∀ l,H l=none->Q (.ref l) (upd H l (.lst ys))) (tCons (tVar 5) tNil)) tNil))))) rfl mh.nd rfl rfl (sw_true rfl rfl rfl (by decide +kernel)) (pi_items (pv 0)) (blkOk_by (N:=Vi) (sc:=defScope E9) (by decide +kernel)) (fun _ _ _ _ _=>(pg_tup rfl (Qi (pg_name (i:=3) mh.nd rfl (.inl rfl)) (Qi (pg_tup rfl (Qi (pg_name (i:=4) mh.nd rfl (.inl rfl)) (Qi (pg_name (i:=5) mh.nd rfl (.inl rfl)) pgs_nil))) pgs_nil)))) (fun _ _ _ _ _=>pts_nil) (fun _ _ _ _ _=>(Ka (Qa (pv 3) (Qa (pv 4) (Qa (pe_callTy call_list_of rfl B.list boot_list (Qa (pv 5) Qb)) Qb)))))))
  (Qe (Qj (Qm ix_list (pe_lst (Qa (pv 2) (Qa (pe_revL (pv 2)) Qb))) (pe_callTy call_int1 rfl B.int boot_int (Qa (pv 1) Qb)) (fun _ _=>rfl)))),?_⟩
 have jy:=sizeLine_eq;obtain ⟨us,sA,fy⟩:=hd;have ul:=fy.length;have kl:(jT b.names us).length=b.length:=by
  show (List.zipWith _ _ _).length=_;rw [List.length_zipWith,Ye]; omega
 refine ⟨d,_,sA,trivial,fun od=>?_⟩;have hL:∀ l xs,H l=some (.lst xs)->upd H d (.frz od (.dK (jT b.names us))) l=some (.lst xs):=fun l xs h=>by rw [upd_ne (fun z=>by rw [z,sA] at h; cases h)]; exact h
 have hT:∀ a xs,SqT K H a xs->SqT K (upd H d (.frz od (.dK (jT b.names us)))) a xs:=fun a xs s=>by
  rcases s with (s | ⟨o,s⟩) | s
  ·exact .inl (.inl (by rw [upd_ne (fun z=>by rw [z,sA] at s; cases s)]; exact s))
  ·exact .inl (.inr ⟨o,by rw [upd_ne (fun z=>by rw [z,sA] at s; cases s)]; exact s⟩)
  ·exact .inr s
 have JA:z0q (CA K (upd H d (.frz od (.dK (jT b.names us))))) us b:=fy.mono fun v k ⟨t,l,zs,e1,e2,e3,e4⟩=>⟨t,l,zs,e1,hT _ _ e2,hL _ _ e3,e4.tp hT Ru.aj⟩;have xc:upd H d (.frz od (.dK (jT b.names us))) d=some (.frz od (.dK (jT b.names us))):=Qt;have un:∀ H',SB [] (upd H d (.frz od (.dK (jT b.names us)))) H'->SB [] H (upd H' d (.dK (jT b.names us))):=fun H' s=>s.unlock sA (fun _ z=>nomatch z) (fun _ _ z=>nomatch z);have dm:∀ p,upd H d (.frz od (.dK (jT b.names us))) p=none->H p=none:=fun p h=>by
  have z:p ≠ d:=fun z=>by rw [z,Qt] at h; cases h
  rwa [upd_ne z] at h
 generalize upd H d _=HL at JA xc un dm;refine ⟨_,Ja,d,od,_,Ja,xc,fun D nD=>?_⟩;have dD:d ≠ D:=fun z=>by rw [z,nD] at xc; cases xc
 refine lc_it walk_items (fun i H2=>SB [D] HL H2/\∃ ws,H2 D=some (.lst ws)/\KdAll K H2 [D] ws (b.take i)) ⟨SB.new nD _,[],Qt,.nil⟩ (fun i H2 hi h=>h.1.frzs _ _ _ xc) (fun i x H2 H' hi h y=>?_) (fun H2 h=>?_)
 ·obtain ⟨s2,ws,aV,D9⟩:=h;obtain ⟨T,x1,y1,rfl,hTn,rfl,ex,ey⟩:=y;have hib:i < b.length:=by rw [kl] at hi; exact hi
  obtain ⟨k,ek⟩:∃ k,b[i]?=some k:=⟨_,Kp hib⟩;obtain ⟨u,eu⟩:∃ u,us[i]?=some u:=⟨_,Kp (by omega)⟩;have enk:b.names[i]?=some k.n:=by rw [List.getElem?_map,ek]; rfl
  have ekv:(jT b.names us)[i]?=some (Sum.inr k.n,u):=by
   show (List.zipWith _ _ _)[i]?=_;rw [List.getElem?_zipWith,enk,eu]
  have ex:(jT b.names us)[i]?.map (fun kv:Key × V=>kV kv.1)=some x1:=ex;have ey:(jT b.names us)[i]?.map Prod.snd=some y1:=ey;rw [ekv] at ex ey;cases ex;cases ey;obtain ⟨k',ZR,tt,l,zs,e1,e2,e3,e4⟩:=JA.get eu;rw [ek] at ZR;cases ZR;have e1:u=.ref tt:=e1;subst e1;have t3:=Jb hTn (.tup [kV (Sum.inr k.n),.ref tt]);have oU:=eZ t3;have bH:=t3.keep _ _ aV aP;have A3:=D9.sb t3 d6.nil;have s3:=s2.trans (t3.nil (ps:=[D]));generalize upd H2 T _=H3 at t3 oU bH A3 s3;have lD:l ≠ D:=fun z=>by rw [z,nD] at e3; cases e3
  have yL:=s3.keep _ _ e3 (by simpa using lD);refine ⟨T,_,Ja,SqT.of oU,Ja,_,_,Ja,_,_,Ja,tt,_,Ja,s3.aL e2,Ja,_,_,Ja,_,_,Ja,Ja,Ja,Ja,?_⟩;refine ⟨_,Ja,_,Ja,_,Ja,l,zs,Ja,.inl (SqL.of yL),fun L2 RM=>?_⟩;have t4:=Jb RM (.lst zs);have Ca:=eZ t4;have jD:=t4.keep _ _ bH aP;have JP:=A3.sb t4 d6.nil;have s4:=s3.trans (t4.nil (ps:=[D]));have LD:L2 ≠ D:=fun z=>by rw [z,bH] at RM; cases RM
  generalize upd H3 L2 _=H4 at t4 Ca jD JP s4;refine ⟨Gn,fun T2 yx=>?_⟩;have t5:=Jb yx (.tup [kV (Sum.inr k.n),.bl k.w,.ref L2]);have xf:SqT K (upd H4 T2 (.tup [kV (Sum.inr k.n),.bl k.w,.ref L2])) T2 [.str k.n,.bl k.w,.ref L2]:=SqT.of Qt;have qH:=t5.keep _ _ Ca aP;have eQ:=t5.keep _ _ jD aP;have A0:=JP.sb t5 d6.nil;have s5:=s4.trans (t5.nil (ps:=[D]));generalize upd H4 T2 _=H5 at t5 xf qH eQ A0 s5;have wl:=A0.length;rw [Kx] at wl;refine ⟨_,eQ,by omega,?_⟩;have t6:=SB.set (ps:=[D]) eQ (by simp) (.lst (ws++[.ref T2]));refine ⟨s5.trans t6,_,Qt,?_⟩;rw [Yg,ek];exact (A0.sb t6 d6.self).append (.cons ⟨T2,L2,zs,Ja,t6.aL xf,t6.keep _ _ qH (by simpa using LD),(e4.sb s5 Ru.aj).sb t6 Ru.aj,by simpa using LD⟩ .nil)
 ·obtain ⟨s2,ws,aV,D9⟩:=h;rw [kl,Yh] at D9;have hd2:=s2.frzs _ _ _ xc;have i4:SB [] HL H2:=s2.drop nD;have A3:KdAll K (upd H2 d (.dK (jT b.names us))) [D] ws b:=D9.IB hd2;have bH:upd H2 d (.dK (jT b.names us)) D=some (.lst ws):=by rw [upd_ne (fun z=>dD z.symm)]; exact aV
  have s3:=un _ i4;have OJ:=dm _ nD;refine cJ ⟨hd2,?_⟩;dsimp only;generalize upd H2 d _=H3 at A3 bH s3;refine ⟨_,Ja,_,Ja,D,ws,Ja,SqL.of bH,fun p np=>?_⟩;have t4:=Jb np (.lst ws.reverse);have qz:=eZ t4;have jD:=t4.keep _ _ bH aP;have JP:=(A3.more np).sb t4 d6.nil;have np0:H p=none:=s3.kU _ np;generalize upd H3 p _=H4 at t4 qz jD JP;refine ⟨dY,fun L nL=>?_⟩;have t5:=Jb nL (.lst [.ref D,.ref p]);have qH:=eZ t5;have tf:=t5.keep _ _ qz aP;have eQ:=t5.keep _ _ jD aP;have A0:=JP.sb t5 d6.nil;generalize upd H4 L _=H5 at t5 qH tf eQ A0;have s5:=(s3.trans t4).trans t5;cases t with
  | true=>exact ⟨_,Ja,.inr ⟨_,Ja,L,_,_,_,Ja,Ja,SqL.of qH,atI_nat (j:=1) rfl,q p _ H5 s5 np0 tf ((A0.less (bad':=[p]) (by simp)).rev)⟩⟩
  | false=>exact ⟨_,Ja,.inr ⟨_,Ja,L,_,_,_,Ja,Ja,SqL.of qH,atI_nat (j:=0) rfl,q D _ H5 s5 OJ eQ (A0.less (bad':=[D]) (by simp))⟩⟩
abbrev zjp:List Str:=[aD,au,"_law_at"]
theorem ud:FnScope zjp [aD,au] (defScope Hv):=fS
theorem z6h {ps:List Str}:FnOk P w K mg base CX0 k f fd ps (FI K 0):=tG fun vs H Q E ⟨v,u,l,k,_,_,_,h,_⟩=>by omega
theorem zg8 (B:BI mg) (zP:Got P w K mg base cS [aD,au] (n) (FI K n)) (F:Fun K cS cS Hv f fd):FnOk P w K mg base CX0 (n+1) f fd [aD,au] (FI K (n+1)):=by
 refine F.ok ud (fun vs H Q E h=>?_) (fun _ A _ _ H vs Q E hr h=>?_)
 ·obtain ⟨v,u,l,o,rfl,_⟩:=h
  rfl
 obtain ⟨v,u,l,o,rfl,hv,hu,Zb,hd,hd2,hp,eT,dZ,q⟩:=h;have bA:=bt hr;refine ⟨_,Qc (ps_set (i:=2) ud.nd rfl (.inl rfl) Qg)
  (Qc (ps_while PassesOwn.never (pt_cmpR op_lt (pv 2) (Qs call_len_seq rfl B.len PySem.boot_len (Qa (pv 1) Qb)) (nomark _)) (Qc (Qr (pt_cmpR (op_neD (ig hr)) (Qm Ql (pv 0) (pv 2) (fun _ _=>rfl)) (Qm Ql (pv 1) (pv 2) (fun _ _=>rfl)) (nomark _)) (Qc (Qr (pt_cmpR (op_eqD (ig hr)) (Qm Ql (Qm Ql (pv 0) (pv 2) (fun _ _=>rfl)) Qg (fun _ _=>rfl)) (Qm Ql (Qm Ql (pv 1) (pv 2) (fun _ _=>rfl)) Qg (fun _ _=>rfl)) (nomark _)) (Qe (Qj (Ka (Qa pe_str (Qa (pv 2) Qb))))) pss_nil)
  (Qe (Qj (Ka (Qa pe_str (Qa (pv 2) (Qa (aT zP (Hm hr) rfl (Qa (Qm Ql (Qm Ql (pv 0) (pv 2) (fun _ _=>rfl)) Qg (fun _ _=>rfl)) (Qa (Qm Ql (Qm Ql (pv 1) (pv 2) (fun _ _=>rfl)) Qg (fun _ _=>rfl)) Qb))) Qb))))))) pss_nil)
  (Qe (ps_set (i:=2) ud.nd rfl (.inl rfl) (pe_op Ko (pv 2) Qg)))))
  (Qe (Qj (Ka (Qa pe_str (Qa (pv 2) Qb)))))),?_⟩
 obtain ⟨a,xs,rfl,iq,gH⟩:=lz hv;obtain ⟨b,ys,rfl,hY,gG⟩:=lz hu;have xl:=gH.length;have yl:=gG.length;have Jj:=l.aF;have olp:=o.aF;rw [<- Lad.bB] at Jj olp;refine cJ ?_;refine ⟨fun mm σ H2=>∃ k:Nat,mm=o.ps.length-k/\SB [] H H2/\σ=[some (.ref a),some (.ref b),some (.int (k:Int))]/\k<=l.ps.length/\k<=o.ps.length/\(Lad.ofPs (o.ps.drop k)).lt (Lad.ofPs (l.ps.drop k))=true/\l.dro o=((Lad.ofPs (l.ps.drop k)).dro (Lad.ofPs (o.ps.drop k))).up k,⟨_,0,Ja,SB.refl,Ja,Nat.zero_le _,Nat.zero_le _,by rw [List.drop_zero,List.drop_zero,Lad.aC,Lad.aC]; exact dZ,by rw [List.drop_zero,List.drop_zero,Lad.aC,Lad.aC,Dro.lK]⟩,fun mm σ H2 h2=>?_⟩;obtain ⟨k,rfl,s2,rfl,kl,ko,oa,oP⟩:=h2;refine ⟨_,Ja,_,Ja,b,ys,Ja,.inr (s2.aL hY),_,_,Ja,Ja,_,Ja,?_⟩;by_cases hk:k < o.ps.length
 ·rw [Ya (show (k:Int) < (ys.length:Nat) by omega)];have hkl:k < l.ps.length:=by
   refine Classical.byContradiction fun z=>?_;rw [List.drop_eq_nil_of_le (as:=l.ps) (by omega)] at oa;have e:=Lad.eJ (Lad.ofPs (o.ps.drop k));rw [show Lad.ofPs ([]:List (Lad × Int))=.nil from rfl,e] at oa;cases oa
  refine iteT ⟨_,fun σ' H' h=>h,?_⟩;have wU:xs[k]?=some xs[k]:=Kp (by omega);have wR:ys[k]?=some ys[k]:=Kp (by omega);obtain ⟨p1,sJ,gq⟩:=gH.get wU;obtain ⟨p2,pf,wX⟩:=gG.get wR;have d1:=l.av p1 (Qu sJ);have d2:=o.av p2 (Qu pf);have q1:=l.bu p1 (Qu sJ);have q2:=o.bu p2 (Qu pf);obtain ⟨a1,u1,Ud,jZ,i7⟩:=nG gq;obtain ⟨a2,u2,Uc,dM,jC⟩:=nG wX;rw [Lad.sM sJ pf] at oP;rw [Lad.qi pf sJ] at oa;refine ⟨_,Ja,_,Ja,a,xs,_,_,Ja,Ja,s2.aL iq,atI_nat wU,_,Ja,_,Ja,b,ys,_,_,Ja,Ja,s2.aL hY,atI_nat wR,Lad.aB p1,Lad.aB p2,cI s2 _ _ (Lad.af _) gq,cI s2 _ _ (Lad.af _) wX,Lad.dF (by omega),Lad.dF (by omega),_,Ja,?_⟩;rw [Lad.mY];rw [Ud] at wU;rw [Uc] at wR;by_cases he:p1.1=p2.1
  ·by_cases hm:p1.2=p2.2
   ·rw [show (!(decide (p1.1=p2.1)&&decide (p1.2=p2.2)))=false by simp [he,hm]];rw [if_pos he,if_pos hm,Dro.BF] at oP;rw [if_pos he.symm,if_pos hm.symm] at oa;refine iteF ⟨_,Ja,_,_,Ja,Ja,o.ps.length-(k+1),by omega,k+1,Ja,s2,Ja,by omega,by omega,oa,oP⟩
   ·rw [show (!(decide (p1.1=p2.1)&&decide (p1.2=p2.2)))=true by simp [hm]];rw [if_pos he,if_neg hm] at oP;refine iteT ?_;refine ⟨_,Ja,_,Ja,a,xs,_,_,Ja,Ja,s2.aL iq,atI_nat wU,a1,_,_,_,Ja,Ja,s2.aL jZ,atI_nat (j:=0) rfl,_,Ja,_,Ja,b,ys,_,_,Ja,Ja,s2.aL hY,atI_nat wR,a2,_,_,_,Ja,Ja,s2.aL dM,atI_nat (j:=0) rfl,p1.1.enc,p2.1.enc,i7.sb s2,jC.sb s2,Lad.aH (by omega),Lad.aH (by omega),_,Ja,?_⟩;rw [Lad.bc,Ya he];refine iteT ⟨_,Ja,dY,fun T nT=>?_⟩;refine q (.ref T) _ (s2.trans (SB.new nT _)) ?_;rw [oP];refine Dp.tup (SqT.of Qt) (.cons (.str _) (.cons ?_ .nil));show Dp K _ (.int (k:Int)) (.int ((0+k:Nat):Int));rw [Nat.zero_add]; exact .int _
  ·rw [show (!(decide (p1.1=p2.1)&&decide (p1.2=p2.2)))=true by simp [he]];rw [if_neg he] at oP;rw [if_neg (fun z=>he z.symm)] at oa;refine iteT ?_;refine ⟨_,Ja,_,Ja,a,xs,_,_,Ja,Ja,s2.aL iq,atI_nat wU,a1,_,_,_,Ja,Ja,s2.aL jZ,atI_nat (j:=0) rfl,_,Ja,_,Ja,b,ys,_,_,Ja,Ja,s2.aL hY,atI_nat wR,a2,_,_,_,Ja,Ja,s2.aL dM,atI_nat (j:=0) rfl,p1.1.enc,p2.1.enc,i7.sb s2,jC.sb s2,Lad.aH (by omega),Lad.aH (by omega),_,Ja,?_⟩;rw [Lad.bc,Qz he];refine iteF ?_;refine ⟨_,Ja,_,Ja,_,Ja,a,xs,_,_,Ja,Ja,s2.aL iq,atI_nat wU,a1,_,_,_,Ja,Ja,s2.aL jZ,atI_nat (j:=0) rfl,_,Ja,_,Ja,b,ys,_,_,Ja,Ja,s2.aL hY,atI_nat wR,a2,_,_,_,Ja,Ja,s2.aL dM,atI_nat (j:=0) rfl,u1,u2,p1.1,p2.1,Ja,i7.sb s2,jC.sb s2,by omega,by omega,by omega,by omega,by omega,oa,fun x H3 s3 hx=>?_⟩;refine ⟨Gn,fun T nT=>?_⟩;have t4:=Jb nT (.tup [.str "exponent",.int (k:Int),x]);refine q (.ref T) _ ((s2.trans s3).trans t4) ?_;rw [oP];refine Dp.tup (SqT.of Qt) (.cons (.str _) (.cons ?_ (.cons (cI t4 _ _ (Dro.noList _) hx) .nil)));show Dp K _ (.int (k:Int)) (.int ((0+k:Nat):Int));rw [Nat.zero_add]; exact .int _
 ·rw [Qz (show ¬ (k:Int) < (ys.length:Nat) by omega)];have e1:o.ps.drop k=[]:=List.drop_eq_nil_of_le (by omega);rw [e1,show Lad.ofPs ([]:List (Lad × Int))=.nil from rfl,Lad.kT] at oP;refine iteF ⟨_,Ja,dY,fun T nT=>?_⟩;refine q (.ref T) _ (s2.trans (SB.new nT _)) ?_;rw [oP];refine Dp.tup (SqT.of Qt) (.cons (.str _) (.cons ?_ .nil));show Dp K _ (.int (k:Int)) (.int ((0+k:Nat):Int));rw [Nat.zero_add]; exact .int _
abbrev zj7:List Str:=[bE,iB]
theorem zi5:FnScope zj7 [bE,iB] (defScope Gy):=fS
theorem zd5 {ps:List Str}:FnOk P w K mg base CX0 k f fd ps (FJ K 0):=tG fun vs H Q E ⟨v,u,d,b,_,_,_,h,_⟩=>by omega
theorem zh9 (B:BI mg) (zN:Got P w K mg base a5 [bE,iB] (n) (FJ K n)) (F:Fun K a5 a5 Gy f fd):FnOk P w K mg base CX0 (n+1) f fd [bE,iB] (FJ K (n+1)):=by
 refine F.ok zi5 (fun vs H Q E h=>?_) (fun _ A _ _ H vs Q E hr h=>?_)
 ·obtain ⟨v,u,d,b,rfl,_⟩:=h
  rfl
 obtain ⟨v,u,d,b,rfl,hv,hk,hd,q⟩:=h;have bA:=bt hr;refine ⟨_,Qc (Qr (PW.pt (Kk (Qp (Qo (tF B (pv 0) B.tuple boot_tuple))) (Kk (pt_cmpR op_ne (Qs call_len_seq rfl B.len PySem.boot_len (Qa (pv 0) Qb)) (Qs call_len_seq rfl B.len PySem.boot_len (Qa (pv 1) Qb)) (nomark _)) (pw_or1 (pt_cmpR (zhv (ig hr)) (Qm Ql (pv 0) Qg (fun _ _=>rfl)) (Qm Ql (pv 1) Qg (fun _ _=>rfl)) (nomark _)))))) (Qe (Qj pe_bl)) pss_nil)
  (Qc (Qr (PW.pt (Kk (Qp (Qo (tF B (Qm Ql (pv 0) Qg (fun _ _=>rfl)) B.int boot_int))) (Kk (Qo (tF B (Qm Ql (pv 0) Qg (fun _ _=>rfl)) B.bool boot_bool)) (pw_or1 (pt_cmpR op_ne (Qm Ql (pv 0) Qg (fun _ _=>rfl)) (Qm Ql (pv 1) Qg (fun _ _=>rfl)) (nomark _)))))) (Qe (Qj pe_bl)) pss_nil)
  (Qe (Qj (pe_or (pe_cmpR op_eq (Qs call_len_seq rfl B.len PySem.boot_len (Qa (pv 1) Qb)) Qg (nomark _)) (pe_one (aT zN (Hm hr) rfl (Qa (Qm Ql (pv 0) Qg (fun _ _=>rfl)) (Qa (Qm Ql (pv 1) Qg (fun _ _=>rfl)) Qb)))))))),?_⟩
 cases hk with
 | no ty kt =>
  obtain ⟨A,ts,rfl,hA,tl,t0,t1,tx,_⟩:=NS hv;exact ⟨_,Ja,_,_,_,false,Ja,ty,kt,_,Ja,iteT (iteT (q _ SB.refl))⟩
 | @len _ a xs hs hl =>
  obtain ⟨A,ts,rfl,hA,tl,t0,t1,tx,_⟩:=NS hv;refine ⟨_,rfl,_,_,"tuple",true,rfl,xy hs,by decide +kernel,_,rfl,iteF ?_⟩;refine ⟨_,Ja,a,xs,Ja,.inr hs,_,Ja,A,ts,Ja,.inr hA,Ja,_,Ja,?_⟩;rw [show decide (V.int (xs.length:Nat)=V.int (ts.length:Nat))=false from Qz (fun z=>hl (by injection z with z; omega))];exact iteT (iteT (q _ SB.refl))
 | @word _ a x r hs hl hw =>
  obtain ⟨A,ts,rfl,hA,tl,t0,t1,tx,_⟩:=NS hv;refine ⟨_,rfl,_,_,"tuple",true,rfl,xy hs,by decide +kernel,_,rfl,iteF ?_⟩;refine ⟨_,Ja,a,_,Ja,.inr hs,_,Ja,A,ts,Ja,.inr hA,Ja,_,Ja,?_⟩;rw [show decide (V.int ((x::r).length:Nat)=V.int (ts.length:Nat))=true from Ya (by rw [tl,<- hl]; rfl)];refine iteF ?_;cases hw with
  | oth ty ks o=>exact ⟨_,Ja,a,_,_,_,Ja,Ja,hs,atI_nat (j:=0) rfl,_,Ja,A,_,_,_,Ja,Ja,hA,t0,_,Ja,.inr ⟨o,_,Ja,iteT (q _ SB.refl)⟩⟩
  | str ne =>
   refine ⟨_,Ja,a,_,_,_,Ja,Ja,hs,atI_nat (j:=0) rfl,_,Ja,A,_,_,_,Ja,Ja,hA,t0,_,Ja,.inl ⟨_,Ja,_,Ja,?_⟩⟩;rw [Qz ne];exact iteT (q _ SB.refl)
 | @num _ a y r hs hl hn =>
  obtain ⟨A,ts,rfl,hA,tl,t0,t1,tx,_⟩:=NS hv;refine ⟨_,rfl,_,_,"tuple",true,rfl,xy hs,by decide +kernel,_,rfl,iteF ?_⟩;refine ⟨_,Ja,a,_,Ja,.inr hs,_,Ja,A,ts,Ja,.inr hA,Ja,_,Ja,?_⟩;rw [show decide (V.int ((V.str d.word::y::r).length:Nat)=V.int (ts.length:Nat))=true from Ya (by rw [tl,<- hl]; rfl)];refine iteF ?_;refine ⟨_,Ja,a,_,_,_,Ja,Ja,hs,atI_nat (j:=0) rfl,_,Ja,A,_,_,_,Ja,Ja,hA,t0,_,Ja,.inl ⟨_,Ja,_,Ja,?_⟩⟩;rw [Ya rfl];refine iteF ?_;cases hn with
  | @oth _ _ b ty kb kt =>
   cases b with
   | false=>exact ⟨_,Ja,a,_,_,_,Ja,Ja,hs,atI_nat (j:=1) rfl,_,_,_,false,Ja,ty,kb,_,Ja,iteT (iteT (q _ SB.refl))⟩
   | true =>
    refine ⟨_,Ja,a,_,_,_,Ja,Ja,hs,atI_nat (j:=1) rfl,_,_,_,true,Ja,ty,kb,_,Ja,iteF ?_⟩;exact ⟨_,Ja,a,_,_,_,Ja,Ja,hs,atI_nat (j:=1) rfl,_,_,_,true,Ja,ty,kt rfl,_,Ja,iteT (iteT (q _ SB.refl))⟩
  | int ne =>
   refine ⟨_,rfl,a,_,_,_,rfl,rfl,hs,atI_nat (j:=1) rfl,_,_,"int",true,rfl,.base (.int _),by decide +kernel,_,rfl,iteF ?_⟩;refine ⟨_,rfl,a,_,_,_,rfl,rfl,hs,atI_nat (j:=1) rfl,_,_,"int",false,rfl,.base (.int _),by decide +kernel,_,rfl,iteF ?_⟩;refine ⟨_,Ja,a,_,_,_,Ja,Ja,hs,atI_nat (j:=1) rfl,_,Ja,A,_,_,_,Ja,Ja,hA,t1,Ja,_,Ja,?_⟩;rw [Qz (fun z=>ne (by injection z))];exact iteT (q _ SB.refl)
 | @fin i a hs =>
  obtain ⟨A,rfl,hA⟩:=NV hv;refine ⟨_,rfl,_,_,"tuple",true,rfl,xy hs,by decide +kernel,_,rfl,iteF ?_⟩;refine ⟨_,Ja,a,_,Ja,.inr hs,_,Ja,A,_,Ja,.inr hA,Ja,_,Ja,iteF ?_⟩;refine ⟨_,Ja,a,_,_,_,Ja,Ja,hs,atI_nat (j:=0) rfl,_,Ja,A,_,_,_,Ja,Ja,hA,atI_nat (j:=0) rfl,_,Ja,.inl ⟨_,Ja,_,Ja,?_⟩⟩;rw [Ya rfl];refine iteF ?_;refine ⟨_,rfl,a,_,_,_,rfl,rfl,hs,atI_nat (j:=1) rfl,_,_,"int",true,rfl,.base (.int _),by decide +kernel,_,rfl,iteF ?_⟩;refine ⟨_,rfl,a,_,_,_,rfl,rfl,hs,atI_nat (j:=1) rfl,_,_,"int",false,rfl,.base (.int _),by decide +kernel,_,rfl,iteF ?_⟩;refine ⟨_,Ja,a,_,_,_,Ja,Ja,hs,atI_nat (j:=1) rfl,_,Ja,A,_,_,_,Ja,Ja,hA,atI_nat (j:=1) rfl,Ja,_,Ja,?_⟩;rw [Ya rfl];refine iteF ?_;refine ⟨_,Ja,A,_,Ja,.inr hA,Ja,true,Ja,iteT (q _ SB.refl)⟩
 | @man i a hs =>
  obtain ⟨A,rfl,hA⟩:=NV hv;refine ⟨_,rfl,_,_,"tuple",true,rfl,xy hs,by decide +kernel,_,rfl,iteF ?_⟩;refine ⟨_,Ja,a,_,Ja,.inr hs,_,Ja,A,_,Ja,.inr hA,Ja,_,Ja,iteF ?_⟩;refine ⟨_,Ja,a,_,_,_,Ja,Ja,hs,atI_nat (j:=0) rfl,_,Ja,A,_,_,_,Ja,Ja,hA,atI_nat (j:=0) rfl,_,Ja,.inl ⟨_,Ja,_,Ja,?_⟩⟩;rw [Ya rfl];refine iteF ?_;refine ⟨_,rfl,a,_,_,_,rfl,rfl,hs,atI_nat (j:=1) rfl,_,_,"int",true,rfl,.base (.int _),by decide +kernel,_,rfl,iteF ?_⟩;refine ⟨_,rfl,a,_,_,_,rfl,rfl,hs,atI_nat (j:=1) rfl,_,_,"int",false,rfl,.base (.int _),by decide +kernel,_,rfl,iteF ?_⟩;refine ⟨_,Ja,a,_,_,_,Ja,Ja,hs,atI_nat (j:=1) rfl,_,Ja,A,_,_,_,Ja,Ja,hA,atI_nat (j:=1) rfl,Ja,_,Ja,?_⟩;rw [Ya rfl];refine iteF ?_;refine ⟨_,Ja,A,_,Ja,.inr hA,Ja,true,Ja,iteT (q _ SB.refl)⟩
 | @ex i d a y b hs hy =>
  obtain ⟨A,z,rfl,hA,hz⟩:=Vy hv;have dd:(Dro.ex i d).deep=1+d.deep:=rfl;refine ⟨_,rfl,_,_,"tuple",true,rfl,xy hs,by decide +kernel,_,rfl,iteF ?_⟩;refine ⟨_,Ja,a,_,Ja,.inr hs,_,Ja,A,_,Ja,.inr hA,Ja,_,Ja,iteF ?_⟩;refine ⟨_,Ja,a,_,_,_,Ja,Ja,hs,atI_nat (j:=0) rfl,_,Ja,A,_,_,_,Ja,Ja,hA,atI_nat (j:=0) rfl,_,Ja,.inl ⟨_,Ja,_,Ja,?_⟩⟩;rw [Ya rfl];refine iteF ?_;refine ⟨_,rfl,a,_,_,_,rfl,rfl,hs,atI_nat (j:=1) rfl,_,_,"int",true,rfl,.base (.int _),by decide +kernel,_,rfl,iteF ?_⟩;refine ⟨_,rfl,a,_,_,_,rfl,rfl,hs,atI_nat (j:=1) rfl,_,_,"int",false,rfl,.base (.int _),by decide +kernel,_,rfl,iteF ?_⟩;refine ⟨_,Ja,a,_,_,_,Ja,Ja,hs,atI_nat (j:=1) rfl,_,Ja,A,_,_,_,Ja,Ja,hA,atI_nat (j:=1) rfl,Ja,_,Ja,?_⟩;rw [Ya rfl];refine iteF ?_;refine ⟨_,Ja,A,_,Ja,.inr hA,Ja,false,Ja,iteF ?_⟩;exact ⟨_,Ja,a,_,_,_,Ja,Ja,hs,atI_nat (j:=2) rfl,_,Ja,A,_,_,_,Ja,Ja,hA,atI_nat (j:=2) rfl,z,y,d,b,Ja,hz,hy,by omega,fun H1 s1=>q _ s1⟩
theorem zjk:FnScope [a8,"kind"] [a8,"kind"] (defScope wa):=fS
theorem zjv {C:Addr} (F:Fun K "__init__" "NoKind.__init__" wa f fd):FnOk P w K mg base CX0 1 f fd [a8,"kind"] (PF K C):=by
 refine F.ok zjk (fun vs H Q E h=>?_) (fun _ A _ _ H vs Q E hr h=>?_)
 ·obtain ⟨a,y,rfl,_⟩:=h
  rfl
 obtain ⟨a,y,rfl,T,no,ha,q⟩:=h;refine ⟨_,Qe (ps_ost (pv 0) (pv 1)),?_⟩;exact ⟨_,Ja,_,Ja,a,C,Ja,T,no,.inl ⟨ha,q⟩⟩
theorem zlc:FnScope [a8,"kind"] [a8,"kind"] (defScope wb):=fS
theorem zkd {C:Addr} (F:Fun K "__init__" "Endless.__init__" wb f fd):FnOk P w K mg base CX0 1 f fd [a8,"kind"] (PF K C):=by
 refine F.ok zlc (fun vs H Q E h=>?_) (fun _ A _ _ H vs Q E hr h=>?_)
 ·obtain ⟨a,y,rfl,_⟩:=h
  rfl
 obtain ⟨a,y,rfl,T,no,ha,q⟩:=h;refine ⟨_,Qe (ps_ost (pv 0) (pv 1)),?_⟩;exact ⟨_,Ja,_,Ja,a,C,Ja,T,no,.inl ⟨ha,q⟩⟩
abbrev EM:List Str:=[a8,"kinds",aO,"spreading","rows"]
theorem jN:FnScope EM [a8,"kinds"] (defScope rP):=fS
theorem zlu {j5 ae:Addr} (B:BI mg) (fJ:Own K mg "NoBook" j5) (cG:ClsF K ae ["spread_by_name","rows_by_name"]) (Ng:Got P w K mg base gE [cA] (87) (Xy K)) (F:Fun K "__init__" "Book.__init__" rP f fd):FnOk P w K mg base (L2.CX P w) (88) f fd [a8,"kinds"] (NY K ae j5):=by
 refine F.okX jN (fun vs H Q E h=>?_) (fun _ A _ _ H vs Q E hr h=>?_)
 ·obtain ⟨x,dx,l,xs,ts,rfl,_⟩:=h
  rfl
 obtain ⟨x,dx,l,xs,ts,rfl,hx,yO,hs,ha,hf,hl,q,qE⟩:=h;have bA:=bt hr;refine ⟨_,Qc (Qr (Qp (Qo (aT Ng (Hm hr) rfl (Qa (pv 1) Qb)))) (Qe (ps_raise rfl (takes_of rfl rfl rfl rfl) (pmk_own PySem.F.excBase_ValueError fJ.q fJ.gC fJ.k (raises_own fJ.s fJ.t) rfl))) pss_nil)
  (Qc (ps_fld (pv 0) (pe_dc (own:=[(aO,2),("spreading",3),("rows",4)]) (g:=(gTup K 3 (gCons (gName 2) (gCons (gName 3) (gCons (gName 4) gNil))))) (tt:=tYes) (tk:=(tVar 2)) (tv:=(tVar 3)) rfl jN.nd (pi_list (pv 1)) (blkOk_by (N:=EM) (sc:=defScope rP) (by decide +kernel)) (fun _ _ _ _ _=>(pg_tup rfl (Qi (pg_name (i:=2) jN.nd rfl (.inl rfl)) (Qi (pg_name (i:=3) jN.nd rfl (.inl rfl)) (Qi (pg_name (i:=4) jN.nd rfl (.inl rfl)) pgs_nil))))) (fun _ _ _ _ _=>pts_nil) (fun _ _ _ _ _=>(pv 2)) (fun _ _ _ _ _=>(pv 3))) rfl)
  (Qe (ps_fld (pv 0) (pe_dc (own:=[(aO,2),("spreading",3),("rows",4)]) (g:=(gTup K 3 (gCons (gName 2) (gCons (gName 3) (gCons (gName 4) gNil))))) (tt:=tYes) (tk:=(tVar 2)) (tv:=(tCB (fun xs H Q=>∃ p ys,xs=[.ref p]/\((SqL K H p ys/\∀ l,H l=none->Q (.ref l) (upd H l (.tup ys)))\/(SqT K H p ys/\Q (.ref p) H))) (tCons (tVar 4) tNil))) rfl jN.nd (pi_list (pv 1)) (blkOk_by (N:=EM) (sc:=defScope rP) (by decide +kernel)) (fun _ _ _ _ _=>(pg_tup rfl (Qi (pg_name (i:=2) jN.nd rfl (.inl rfl)) (Qi (pg_name (i:=3) jN.nd rfl (.inl rfl)) (Qi (pg_name (i:=4) jN.nd rfl (.inl rfl)) pgs_nil))))) (fun _ _ _ _ _=>pts_nil) (fun _ _ _ _ _=>(pv 2)) (fun _ _ _ _ _=>(pe_callTy call_tuple_of rfl B.tuple boot_tuple (Qa (pv 4) Qb)))) rfl))),?_⟩
 refine ⟨_,Ja,l,xs,ts,Ja,SqL.of hs,ha,hf,hl,fun b H1 s1 hb=>?_⟩;refine ⟨_,Ja,?_⟩;cases b with
 | false=>exact iteT (qE (fun z=>nomatch (hb.mpr z)) H1 s1)
 | true =>
 refine iteF ?_;obtain ⟨bk,et,ok⟩:=hb.mp rfl;subst et;have q2:=q bk rfl ok;have sD:=(ha.sb s1).kd;have jZ:=s1.keep _ _ hs aP;have lO:=s1.keep _ _ hx aP;have pL:=sD.length;have jy:=sizeLine_eq;have b8:=ok.len;have hlx:l ≠ x:=ne_of hs hx (fun z=>nomatch z);refine ⟨_,Ja,l,Ja,⟨_,SqL.of jZ⟩,fun D hD=>?_⟩;refine Vz (walk_list (xs:=xs)) hD (by omega) (fun i aS _=>aS=Bk.lZ (bk.take i)) rfl (fun H2 s2=>s2.fO aP (SqL.of jZ)) (fun _ _ _ _ _ h=>h) (fun Pv i y H2 H' aS hi s2 yy hR jC fin _=>?_) (fun aS H2 s2 aV hR _=>?_)
 ·obtain ⟨rfl,ey⟩:=yy;obtain ⟨k,ek,t,r,zs,rfl,h1,h2,h3,_⟩:=sD.get ey;refine ⟨t,_,Ja,s2.aL h1,Ja,_,_,Ja,_,_,Ja,_,_,Ja,Ja,Ja,?_⟩;refine ⟨_,Ja,_,Ja,fin (Sum.inr k.n) _ _ SB.refl ?_⟩;rw [hR,Ii,Yg,ek,Option.toList_some,Bk.lZ,Bk.lZ,Yj]
  ·rfl
  ·intro p hp e;obtain ⟨j,hj,rfl⟩:=Qx hp
   injection e with e
   exact Bk.rV ok.nd ek j hj e
 ·rw [pL,Yh] at hR;subst hR;have lu:=s2.keep _ _ lO aP;have jC:=s2.keep _ _ jZ aP;have xK:=sD.sb s2 d6.nil;refine ⟨_,Ja,x,_,dx,_,Ja,lu,cG.c,cG.no _ (by simp),by decide,?_⟩;have e1:putF (Str.ofString "spread_by_name") (V.ref D) []=[(Str.ofString "spread_by_name",V.ref D)]:=rfl;rw [e1];have t3:SB [x] H2 (upd H2 x (.ins ae dx [(Str.ofString "spread_by_name",V.ref D)])):=SB.setG lu (by simp) (fun _ z=>nomatch z) (fun _ _ z=>nomatch z) _;have Jd:d6 H2 [] [x]:=fun p hp=>.inr fun xs z=>by rw [Qy hp,lu] at z; cases z
  have Zk:=xK.sb t3 Jd;have yL:=t3.keep _ _ jC (by simpa using hlx);have xG:upd H2 x (.ins ae dx [(Str.ofString "spread_by_name",V.ref D)]) x=some (.ins ae dx [(Str.ofString "spread_by_name",V.ref D)]):=Qt;have bH:=t3.keep _ _ aV (by simpa using ne_of aV lu (fun z=>nomatch z));have hO:=((s1.trans s2).nil (ps:=[x])).trans t3;generalize upd H2 x _=H3 at t3 Zk yL xG bH hO;refine ⟨_,Ja,l,Ja,⟨_,SqL.of yL⟩,fun D2 vr=>?_⟩;refine Vz (walk_list (xs:=xs)) vr (by omega) (fun i aS H4=>∃ us,aS=Bk.i5 (bk.take i) us/\Bears K H4 Kd.wm us (bk.take i)) ⟨[],Ja,.nil⟩ (fun H4 s4=>s4.fO aP (SqL.of yL)) (fun i us H4 H5 s5 ⟨tK,e,hb⟩=>⟨tK,e,hb.sb s5 Kd.eH⟩) (fun Pv i y H4 H' aS hi s4 yy hR hl4 fin _=>?_) (fun aS H4 s4 jD hR _=>?_)
  ·obtain ⟨rfl,ey⟩:=yy;obtain ⟨us,rfl,hb⟩:=hR;obtain ⟨k,ek,t,r,zs,rfl,h1,h2,h3,_⟩:=Zk.get ey;refine ⟨t,_,Ja,s4.aL h1,Ja,_,_,Ja,_,_,Ja,_,_,Ja,Ja,Ja,?_⟩;refine ⟨_,Ja,_,Ja,r,zs,Ja,.inl ⟨SqL.of (s4.keep _ _ h2 aP),fun p hp=>?_⟩⟩;have t5:=Jb hp (.tup zs);refine fin (Sum.inr k.n) _ _ t5 ⟨us++[.ref p],?_,?_⟩
   ·rw [Ii,Yg,ek,Option.toList_some,Bk.i5,Bk.i5,List.zipWith_append hb.length.symm]
    ·rfl
    ·intro p hp e;obtain ⟨j,hj,e2⟩:=Xo hp;rw [e2] at e
     injection e with e
     exact Bk.rV ok.nd ek j hj e
   ·rw [Yg,ek,Option.toList_some];exact Bears.append (hb.sb t5 Kd.eH) (.cons (.tup (.inl (.inl Qt)) (Bears.dp ((h3.sb s4 Ru.aj).sb t5 Ru.aj))) .nil)
  ·rw [pL,Yh] at hR;obtain ⟨us,rfl,hb⟩:=hR;have xF:=s4.keep _ _ xG aP;refine ⟨_,Ja,x,_,dx,_,Ja,xF,cG.c,cG.no _ (by simp),by simp,?_⟩;have t5:SB [x] H4 (upd H4 x (.ins ae dx (Um D D2))):=SB.setG xF (by simp) (fun _ z=>nomatch z) (fun _ _ z=>nomatch z) _;refine q2 _ ((hO.trans s4.nil).trans t5) ⟨x,dx,D,D2,us,Ja,Qt,?_,?_,hb.sb t5 Kd.eH⟩
   ·exact t5.keep _ _ (s4.keep _ _ bH aP) (by simpa using ne_of (s4.keep _ _ bH aP) xF (fun z=>nomatch z))
   ·exact t5.keep _ _ jD (by simpa using ne_of jD xF (fun z=>nomatch z))
abbrev UH:List Str:=[a8]
theorem zk9:FnScope UH [a8] (defScope wh):=fS
theorem zjo {ae:Addr} (B:BI mg) (cG:ClsF K ae ["spread_by_name","rows_by_name"]) (F:Fun K eF "Book.names" wh f fd):FnOk P w K mg base CX0 (1) f fd [a8] (Il K ae):=by
 refine F.ok zk9 (fun vs H Q E h=>?_) (fun _ A _ _ H vs Q E hr h=>?_)
 ·obtain ⟨v,b,rfl,_⟩:=h
  rfl
 obtain ⟨v,b,rfl,hb,hl,q⟩:=h;refine ⟨_,Qe (Qj (pe_callTy (call_listD rfl) rfl B.list boot_list (Qa (pe_fld (pv 0) rfl) Qb))),?_⟩;obtain ⟨a,dx,d1,d2,us,rfl,h1,h2,h3,h4⟩:=hb;refine ⟨_,Ja,a,_,dx,_,_,Ja,h1,cG.c,cG.no _ (by simp),Ja,d1,_,Ja,.inl h2,fun p hp=>?_⟩;exact q p _ (SB.new hp _) hp (by rw [Qt,Bk.lZ,List.map_map,List.map_map]; rfl)
abbrev UE:List Str:=[a8,aO]
theorem zku:FnScope UE [a8,aO] (defScope wc):=fS
theorem zkg {ae aw:Addr} (B:BI mg) (cG:ClsF K ae ["spread_by_name","rows_by_name"]) (sV:GotX P w K mg base cN [aq,aO] (3) (Oa K ae aw)) (F:Fun K "spreads" "Book.spreads" wc f fd):FnOk P w K mg base (L2.CX P w) (4) f fd [a8,aO] (Oo K ae aw):=by
 refine F.okX zku (fun vs H Q E h=>?_) (fun _ A _ _ H vs Q E hr h=>?_)
 ·obtain ⟨v,b,n,rfl,_⟩:=h
  rfl
 obtain ⟨v,b,n,rfl,hb,hl,qk,qE⟩:=h;refine ⟨_,Qc (Kf (tH sV (Hm hr) rfl (takes_of rfl rfl rfl rfl) (Qa (pv 0) (Qa (pv 1) Qb))))
  (Qe (Qj (pe_dget (u1 hr) (pe_fld (pv 0) rfl) (pv 1) (fun _ _=>rfl)))),?_⟩
 refine ⟨_,Ja,_,Ja,_,b,n,Ja,hb,hl,fun k e H1 s1=>?_,qE⟩;obtain ⟨a,dx,d1,d2,us,rfl,h1,h2,h3,h4⟩:=hb.ef s1;refine ⟨_,Ja,a,_,dx,_,_,Ja,h1,cG.c,cG.no _ (by simp),Ja,_,Ja,d1,V.bl k.w,Ja,iN h2 (by rw [Bk.x7,e]; rfl),qk k e H1 s1⟩
abbrev UG:List Str:=[a8,aO]
theorem zlo:FnScope UG [a8,aO] (defScope wg):=fS
theorem zks {ae aw:Addr} (B:BI mg) (cG:ClsF K ae ["spread_by_name","rows_by_name"]) (sV:GotX P w K mg base cN [aq,aO] (3) (Oa K ae aw)) (F:Fun K "rules" "Book.rules" wg f fd):FnOk P w K mg base (L2.CX P w) (4) f fd [a8,aO] (N9 K ae aw):=by
 refine F.okX zlo (fun vs H Q E h=>?_) (fun _ A _ _ H vs Q E hr h=>?_)
 ·obtain ⟨v,b,n,rfl,_⟩:=h
  rfl
 obtain ⟨v,b,n,rfl,hb,hl,Si,qk,qE⟩:=h;refine ⟨_,Qc (Kf (tH sV (Hm hr) rfl (takes_of rfl rfl rfl rfl) (Qa (pv 0) (Qa (pv 1) Qb))))
  (Qe (Qj (pe_callTy call_list_of rfl B.list boot_list (Qa (pe_dget (u1 hr) (pe_fld (pv 0) rfl) (pv 1) (fun _ _=>rfl)) Qb)))),?_⟩
 refine ⟨_,Ja,_,Ja,_,b,n,Ja,hb,hl,fun k e H1 s1=>?_,qE⟩;obtain ⟨a,dx,d1,d2,us,rfl,h1,h2,h3,h4⟩:=hb.ef s1;obtain ⟨u,hv,hu⟩:=Bk.oE n h4 e;refine ⟨_,Ja,a,_,dx,_,_,Ja,h1,cG.c,cG.no _ (by simp),Ja,_,Ja,d2,u,Ja,iN h3 hv,?_⟩;cases hu with
 | tup ht hd=>exact ⟨_,_,Ja,.inr ht,fun l hl=>qk k e l _ _ (s1.trans (SB.new hl _)) (s1.kU l hl) Qt ((Bears.of hd).sb (Jb hl _) Ru.aj)⟩
abbrev zmr:List Str:=[aq,ah,bq,aZ,aN,"left","ladders","ahead","later"]
theorem md:FnScope zmr [aq,ah,bq,aZ,aN] (defScope HF):=fS
theorem zfz {ae aw cb cZ bX dC eB fL:Addr} (B:BI mg) (M5:GotX P w K mg base nK [aq,ah,bq,aZ,aN] (74) (Xb K ae aw cb cZ bX dC)) (Nc:GotX P w K mg base fj [aq,ah] (72) (VQ K ae aw eB)) (MO:Got P w K mg base gu [aq] (47) (Xu K ae aw)) (nq:Got P w K mg base cU [aq,bO,ah] (45) (CT K ae 20)) (zL:GotX P w K mg base pF [bp,aI] (60) (FF K fL 40)) (F:Fun K dP dP HF f fd):FnOk P w K mg base (L2.CX P w) (80) f fd [aq,ah,bq,aZ,aN] (N2 K ae aw cb cZ bX eB):=by
 refine F.okX md (fun vs H Q E h=>?_) (fun _ A _ _ H vs Q E hr h=>?_)
 ·obtain ⟨v,w,x,y,a,b,g,os,ro,so,o,e,rfl,_⟩:=h
  rfl
 obtain ⟨v,w,x,y,a,b,g,os,ro,so,o,e,rfl,hv,hP,hd,hX⟩:=h;have bA:=bt hr;refine ⟨_,Qc (ps_set (i:=5) md.nd rfl (.inl rfl) (Qm Ql (tH M5 (Hm hr) rfl (takes_of rfl rfl rfl rfl) (Qa (pv 0) (Qa (pv 1) (Qa (pv 2) (Qa (pv 3) (Qa (pv 4) Qb)))))) Qg (fun _ _=>rfl)))
  (Qc (Kf (tH Nc (Hm hr) rfl (takes_of rfl rfl rfl rfl) (Qa (pv 0) (Qa (pv 1) Qb))))
  (Qc (ps_set (i:=6) md.nd rfl (.inl rfl) (aT MO (Hm hr) rfl (Qa (pv 0) Qb)))
  (Qc (ps_set (i:=7) md.nd rfl (.inl rfl) (aT nq (Hm hr) rfl (Qa (pv 0) (Qa (pv 6) (Qa (pv 1) Qb)))))
  (Qc (ps_set (i:=8) md.nd rfl (.inl rfl) (aT nq (Hm hr) rfl (Qa (pv 0) (Qa (pv 6) (Qa (pv 5) Qb)))))
  (Qe (Qj (Ka (Qa (pv 7) (Qa (pv 8) (Qa (tH zL (Hm hr) rfl (takes_of rfl rfl rfl rfl) (Qa (pv 7) (Qa (pv 8) Qb))) Qb)))))))))),?_⟩
 have ok:=hP.ok;have b8:=ok.len;have gd:=hP.deep;have gp:=hP.parts;obtain ⟨D,go⟩:=hP.xN;obtain ⟨ns,gnn,RB⟩:=hP.nm;obtain ⟨xs,ha,JF⟩:=hP.pl;refine ⟨_,Ja,_,Ja,_,Ja,_,Ja,_,Ja,v,w,.ref a,x,y,Ja,b,g,ns,hv,by omega,hP.gr,by omega,by omega,gnn,RB,fun n lo d H1 s1 nd sA=>?_,fun gn=>⟨v,w,x,y,a,b,g,D,xs,os,ro,so,Ja,⟨hv,ok⟩,⟨hP.gr,go,by omega,by omega,gn⟩,⟨ha,JF⟩,hP.ru,hP.sa,hP.sn,fun wY H1 s1=>?_,fun pl k kd e1 e2 e3=>⟨fun wY H1 s1=>?_,fun i r er hr=>⟨fun DY H1 s1=>?_,fun n en n0=>?_⟩⟩⟩⟩
 ·obtain rfl:=hd.old.uniq (.kindG lo);exact hX d H1 s1 nd sA
 ·obtain rfl:=hd.old.uniq (.place gn wY);exact hX H1 s1
 ·obtain rfl:=hd.old.uniq (.rule gn e1 e2 e3 wY);exact hX H1 s1
 ·obtain rfl:=hd.old.uniq (.said gn e1 e2 e3 er hr fun ⟨n,en⟩=>by have:=DY _ en; omega);exact hX H1 s1
 ·subst en;obtain ⟨km,Ua⟩:=Bk.get_some e3;obtain ⟨_,_,rr⟩:=ok.kd kd km;have ij:=P1 (fun r hr=>(rr r hr).1) hr;have TY:(some n:Option Int)=some ((n.toNat:Nat):Int):=by rw [Int.toNat_of_nonneg n0]
  obtain rfl:=hd.old.uniq (.done gn e1 e2 e3 er hr TY);have Pa:=Gr.mX ij n;have O8:=Gr.kR ij n;have AF:=Gr.fF e2;have d1:=Gr.gL (b:=b) (n:=n) (fr:=Gr.fM r n) e2;have p1:=Gr.iX (b:=b) (n:=n) (fr:=Gr.fM r n) e2;have p2:pl.length*(g.parts+1)<=14*41:=Nat.mul_le_mul (by omega) (by omega);refine ⟨fun uD=>absurd ⟨by omega,by omega⟩ uD,fun yM T u p H1 s1 nT hT hu hp=>?_⟩;refine ⟨T,_,_,_,Ja,Ja,hT,atI_nat (j:=0) rfl,?_⟩;refine cJ ?_;refine ⟨_,Ja,_,Ja,v,w,b,g,Ja,hv.ef s1,ok,hP.gr.sb s1,by omega,by omega,gn,fun oh H2 s2=>?_,fun m lo d H2 s2 nd hd2=>?_⟩
  rotate_left
  ·cases e with
   | none=>exact (lo.I4 (hd.2 rfl)).elim
   | some z =>
    obtain rfl:=hd.2.2.one lo;exact hX d H2 (s1.trans s2) (s1.kU _ nd) hd2
  cases e with
  | some z=>exact (hd.2.2.I4 oh).elim
  | none =>
  have lC:=s1.trans s2;obtain ⟨ρ,R1,R2,⟨dZ,a1,a2,a3,a4⟩,q⟩:=hX pl k kd i r n e1 e2 e3 er hr rfl n0;refine ⟨_,Ja,v,b,ρ,Ja,hv.ef lC,ok,R1.ow,fun dd es H3 s3 ndd YX eo=>?_⟩;refine cJ ?_;have hO:=lC.trans s3;refine ⟨_,Ja,_,Ja,_,Ja,v,w,dd,b,ρ,es,g,Ja,hv.ef hO,by omega,YX,hP.gr.sb hO,R1.deep,R1.fit es (fun n hn he=>(eo.mem n).mpr ⟨hn,he⟩),R1.parts,fun x1 H4 s4 lO=>?_⟩;refine cJ ?_;have tc:=hO.trans s4;refine ⟨_,Ja,_,Ja,_,Ja,v,u,dd,b,ρ,es,_,Ja,hv.ef tc,by omega,YX.ef s4,hu.sb ((s2.trans s3).trans s4),R2.deep,R2.fit es (fun n hn he=>(eo.mem n).mpr ⟨hn,he⟩),R2.parts,fun x2 H5 s5 lu=>?_⟩;refine cJ ?_;have kq:=tc.trans s5;refine ⟨_,Ja,_,Ja,_,Ja,_,Ja,x1,x2,_,_,Ja,lO.sb s5,lu,by omega,a1,a2,a3,a4,fun _ z H6 s6 hz=>?_,fun z=>by rw [dZ] at z; cases z⟩;refine ⟨Gn,fun T2 yx=>?_⟩;have t7:=Jb yx (.tup [x1,x2,z]);exact q T2 x1 x2 z _ ((kq.trans s6).trans t7) (SqT.of Qt) ((lO.sb s5).sb (s6.trans t7)) (lu.sb (s6.trans t7)) (cI t7 _ _ (Dro.noList _) hz)
abbrev zko:List Str:=[bh,ao,aJ,bF,a6,"e"]
theorem yc:FnScope zko [bh,ao,aJ,bF,a6] (defScope HI):=fS
theorem zi1 {ae:Addr} {c:Str->Addr} (B:BI mg) (T:ErrsM K mg c eC eN eK) (zJ:GotX P w K mg base dP [aq,ah,bq,aZ,aN] (80) (N2 K ae (c "NoKind") (c "NoPlace") (c "NoRule") (c "NoNumber") (c "Endless"))) (F:Fun K cF cF HI f fd):FnOk P w K mg base CX0 (95) f fd [bh,ao,aJ,bF,a6] (pH K ae):=by
 refine F.ok yc (fun vs H Q E h=>?_) (fun _ A _ _ H vs Q E hr h=>?_)
 ·obtain ⟨v,w,x,y,a,b,g,os,ro,so,o,e,rfl,_⟩:=h
  rfl
 obtain ⟨v,w,x,y,a,b,g,os,ro,so,o,e,rfl,hv,hP,hd,n6,q⟩:=h;refine ⟨_,Qc (L2.ps_try_manyN (l:=[(.ref (c "NoKind"),some 5,fun a cls d=>(tRet (tLst (tCons (tC (.str "kind")) (tCons (C6 K a cls d "kind" (tVar 5)) tNil))))),(.ref (c "Endless"),some 5,fun a cls d=>(tRet (tLst (tCons (tC (.str "endless")) (tCons (C6 K a cls d "kind" (tVar 5)) tNil))))),(.ref (c "FellError"),some 5,fun a cls d=>(tRet (tLst (tCons (tCB (GJ K a cls d) (tCons (tVar 5) (tCons (tC (.ref (c "NoPlace"))) tNil))) (tCons (tCB (GJ K a cls d) (tCons (tVar 5) (tCons (tC (.ref (c "NoRule"))) tNil))) (tCons (tCB (GJ K a cls d) (tCons (tVar 5) (tCons (tC (.ref (c "NoNumber"))) tNil))) (tCons (tCB (GJ K a cls d) (tCons (tVar 5) (tCons (tC (.ty "ValueError")) tNil))) tNil)))))))]) (tb:=fun W=>(tDrop (tCallS (N2 K ae (c "NoKind") (c "NoPlace") (c "NoRule") (c "NoNumber") (c "Endless")) (WE W) (tCons (tVar 0) (tCons (tVar 1) (tCons (tVar 2) (tCons (tVar 3) (tCons (tVar 4) tNil)))))))) (Wout:=fun _ _ _ _=>False) rfl rfl yc.nd takes0
   (fun W pn xe tk _=>by exact (Qe (Kf (tH zJ (Hm hr) rfl tk (Qa (pv 0) (Qa (pv 1) (Qa (pv 2) (Qa (pv 3) (Qa (pv 4) Qb)))))))))
   (.named rfl rfl ⟨rfl,by decide,Or.inl (T.glo "NoKind" (.tail _ (.tail _ (.head _))))⟩ (fun a oe cls d pn hz hf=>by exact (Qe (Qj (pe_lst (Qa pe_str (Qa (Vw (.head _) hz hf (pv 5)) Qb)))))) (.named rfl rfl ⟨rfl,by decide,Or.inl (T.glo "Endless" (mi 6))⟩ (fun a oe cls d pn hz hf=>by exact (Qe (Qj (pe_lst (Qa pe_str (Qa (Vw (.head _) hz hf (pv 5)) Qb)))))) (.named rfl rfl ⟨rfl,by decide,Or.inl T.xu⟩ (fun a oe cls d pn hz hf=>by exact (Qe (Qj (pe_lst (Qa (Qs (Og (.head _) hz hf) rfl B.isinstance boot_isinstance (Qa (pv 5) (Qa (pe_glob (v:=.ref (c "NoPlace")) rfl (T.glo "NoPlace" (.head _)) rfl) Qb))) (Qa (Qs (Og (.head _) hz hf) rfl B.isinstance boot_isinstance (Qa (pv 5) (Qa (pe_glob (v:=.ref (c "NoRule")) rfl (T.glo "NoRule" (mi 3)) rfl) Qb))) (Qa (Qs (Og (.head _) hz hf) rfl B.isinstance boot_isinstance (Qa (pv 5) (Qa (pe_glob (v:=.ref (c "NoNumber")) rfl (T.glo "NoNumber" (mi 4)) rfl) Qb))) (Qa (Qs (Og (.head _) hz hf) rfl B.isinstance boot_isinstance (Qa (pv 5) (Qa (U9 (T':="ValueError") rfl T.ve rfl) Qb))) Qb)))))))) .nil))))
  (Qe (Qj (pe_lst Qb))),?_⟩
 refine ⟨_,Ja,_,Ja,_,Ja,_,Ja,_,Ja,v,w,x,y,a,b,g,os,ro,so,o,e,Ja,hv,hP,hd,?_⟩;cases o with
 | rise=>trivial
 | kind n =>
  intro d H1 s1 nd sA;refine ⟨true,(T.exo "NoKind" (.head _) "NoKind" (by decide +kernel)).trans (by rw [Ya rfl]),fun _ a' ha=>?_,fun z=>nomatch z⟩;refine ⟨_,Ja,_,d,_,.str n,Ja,Ja,T.exc _ (.head _),T.Yz _ (.head _),Ja,sA,Ja,?_⟩;exact ⟨dY,fun Z nZ=>q Z _ (s1.trans (SB.new nZ _)) (.lst (SqL.of Qt) (.cons (.str _) (.cons (.str _) .nil)))⟩
 | done =>
  cases e with
  | none=>exact (n6 ⟨rfl,Ja⟩).elim
  | some n =>
  intro d H1 s1 nd sA;refine ⟨false,(T.exo "Endless" (.tail _ (.head _)) "NoKind" (by decide +kernel)).trans (by rw [Qz (by decide +kernel)]),(fun z=>nomatch z),fun _=>⟨true,(T.exo "Endless" (.tail _ (.head _)) "Endless" (by decide +kernel)).trans (by rw [Ya rfl]),fun _ a' ha=>?_,fun z=>nomatch z⟩⟩;refine ⟨_,Ja,_,d,_,.str n,Ja,Ja,T.exc _ (.tail _ (.head _)),T.Yz _ (.tail _ (.head _)),Ja,sA,Ja,?_⟩;exact ⟨dY,fun Z nZ=>q Z _ (s1.trans (SB.new nZ _)) (.lst (SqL.of Qt) (.cons (.str _) (.cons (.str _) .nil)))⟩
 | place =>
  intro H1 s1;refine ⟨false,(T.exo "NoPlace" (.tail _ (.tail _ (.head _))) "NoKind" (by decide +kernel)).trans (by rw [Qz (by decide +kernel)]),(fun z=>nomatch z),fun _=>⟨false,(T.exo "NoPlace" (.tail _ (.tail _ (.head _))) "Endless" (by decide +kernel)).trans (by rw [Qz (by decide +kernel)]),(fun z=>nomatch z),fun _=>⟨true,T.exm _ (.tail _ (.tail _ (.head _))),fun _ a' ha=>?_,fun z=>nomatch z⟩⟩⟩;refine ⟨_,Ja,_,_,_,true,Ja,T.exc _ (.tail _ (.tail _ (.head _))),.inl rfl,Ja,fun u r=>r,T.is (.tail _ (.tail _ (.head _))) (by decide +kernel),?_⟩;refine ⟨_,Ja,_,_,_,false,Ja,T.exc _ (.tail _ (.tail _ (.head _))),.inl rfl,Ja,fun u r=>r,T.wQ (.tail _ (.tail _ (.head _))) (by decide +kernel) (by decide +kernel),?_⟩;refine ⟨_,Ja,_,_,_,false,Ja,T.exc _ (.tail _ (.tail _ (.head _))),.inl rfl,Ja,fun u r=>r,T.wQ (.tail _ (.tail _ (.head _))) (by decide +kernel) (by decide +kernel),?_⟩;refine ⟨_,Ja,_,_,_,true,Ja,T.exc _ (.tail _ (.tail _ (.head _))),.inl rfl,Ja,fun u r=>r,T.RU _ (.tail _ (.tail _ (.head _))),?_⟩;exact ⟨uO,fun Z nZ=>q Z _ (s1.trans (SB.new nZ _)) (.lst (SqL.of Qt) (.cons (.bl _) (.cons (.bl _) (.cons (.bl _) (.cons (.bl _) .nil)))))⟩
 | rule =>
  intro H1 s1;refine ⟨false,(T.exo "NoRule" (mi 3) "NoKind" (by decide +kernel)).trans (by rw [Qz (by decide +kernel)]),(fun z=>nomatch z),fun _=>⟨false,(T.exo "NoRule" (mi 3) "Endless" (by decide +kernel)).trans (by rw [Qz (by decide +kernel)]),(fun z=>nomatch z),fun _=>⟨true,T.exm _ (mi 3),fun _ a' ha=>?_,fun z=>nomatch z⟩⟩⟩;refine ⟨_,Ja,_,_,_,false,Ja,T.exc _ (mi 3),.inl rfl,Ja,fun u r=>r,T.wQ (mi 3) (by decide +kernel) (by decide +kernel),?_⟩;refine ⟨_,Ja,_,_,_,true,Ja,T.exc _ (mi 3),.inl rfl,Ja,fun u r=>r,T.is (mi 3) (by decide +kernel),?_⟩;refine ⟨_,Ja,_,_,_,false,Ja,T.exc _ (mi 3),.inl rfl,Ja,fun u r=>r,T.wQ (mi 3) (by decide +kernel) (by decide +kernel),?_⟩;refine ⟨_,Ja,_,_,_,true,Ja,T.exc _ (mi 3),.inl rfl,Ja,fun u r=>r,T.RU _ (mi 3),?_⟩;exact ⟨uO,fun Z nZ=>q Z _ (s1.trans (SB.new nZ _)) (.lst (SqL.of Qt) (.cons (.bl _) (.cons (.bl _) (.cons (.bl _) (.cons (.bl _) .nil)))))⟩
 | said =>
  intro H1 s1;refine ⟨false,(T.exo "NoNumber" (mi 4) "NoKind" (by decide +kernel)).trans (by rw [Qz (by decide +kernel)]),(fun z=>nomatch z),fun _=>⟨false,(T.exo "NoNumber" (mi 4) "Endless" (by decide +kernel)).trans (by rw [Qz (by decide +kernel)]),(fun z=>nomatch z),fun _=>⟨true,T.exm _ (mi 4),fun _ a' ha=>?_,fun z=>nomatch z⟩⟩⟩;refine ⟨_,Ja,_,_,_,false,Ja,T.exc _ (mi 4),.inl rfl,Ja,fun u r=>r,T.wQ (mi 4) (by decide +kernel) (by decide +kernel),?_⟩;refine ⟨_,Ja,_,_,_,false,Ja,T.exc _ (mi 4),.inl rfl,Ja,fun u r=>r,T.wQ (mi 4) (by decide +kernel) (by decide +kernel),?_⟩;refine ⟨_,Ja,_,_,_,true,Ja,T.exc _ (mi 4),.inl rfl,Ja,fun u r=>r,T.is (mi 4) (by decide +kernel),?_⟩;refine ⟨_,Ja,_,_,_,true,Ja,T.exc _ (mi 4),.inl rfl,Ja,fun u r=>r,T.RU _ (mi 4),?_⟩;exact ⟨uO,fun Z nZ=>q Z _ (s1.trans (SB.new nZ _)) (.lst (SqL.of Qt) (.cons (.bl _) (.cons (.bl _) (.cons (.bl _) (.cons (.bl _) .nil)))))⟩
abbrev zlz:List Str:=[ai,"_law_way"]
theorem yb:FnScope zlz [ai] (defScope Ho):=fS
theorem ziz (B:BI mg) (cg:Got P w K mg base bU [ai,aM] (1) (Ai)) (F:Fun K gF gF Ho f fd):FnOk P w K mg base CX0 (2) f fd [ai] (VX):=by
 refine F.ok yb (fun vs H Q E h=>?_) (fun _ A _ _ H vs Q E hr h=>?_)
 ·obtain ⟨p,cl,rfl,_⟩:=h
  rfl
 obtain ⟨p,cl,rfl,hp,q⟩:=h;have bA:=bt hr;refine ⟨_,Qc (ps_set (i:=1) yb.nd rfl (.inl rfl) (aT cg (Hm hr) rfl (Qa (pv 0) (Qa Qg Qb))))
  (Qc (Qr (pt_cmpR op_lt (pv 1) Qg (nomark _)) (Qe (Qj (pv 1))) pss_nil)
  (Qe (Qj (aT cg (Hm hr) rfl (Qa (pv 0) (Qa (Qm ix_list (pe_lst (Qa Qg (Qa (pe_op op_pow Qg Qg) Qb))) (pe_op op_sub (pv 1) Qg) (fun _ _=>rfl)) Qb)))))),?_⟩
 refine ⟨_,Ja,p,cl,4,Ja,hp,by decide,by decide +kernel,fun r H1 r0 r4 s1 gq=>?_⟩;refine cJ ?_;refine ⟨_,Ja,_,_,Ja,Ja,_,Ja,?_⟩;by_cases w2:r < 2
 ·rw [Ya w2];exact iteT ⟨_,Ja,q r H1 r0 (by omega) s1 gq⟩
 rw [Qz w2];refine iteF (CN ?_);refine ⟨_,Ja,_,_,Ja,Ja,⟨by decide,by decide,by decide⟩,dY,fun M nM=>?_⟩;have t2:=Jb nM (.lst [.int 7,.int (10 ^ (9:Int).toNat)]);have Zw:=eZ t2;have eT:=gq.sb t2;generalize upd H1 M _=H2 at t2 Zw eT;have s2:=s1.trans t2.nil;obtain ⟨m,em,m1,m9⟩:∃ m:Int,atI [V.int 7,V.int (10 ^ (9:Int).toNat)] (r-2)=some (.int m)/\1<=m/\m<=10 ^ 9:=by
  rcases (by omega:r=2\/r=3) with e | e
  ·rw [e]; exact ⟨7,Ja,by decide,by decide⟩
  ·rw [e]; exact ⟨10 ^ 9,Ja,by decide,by decide⟩
 refine ⟨_,Ja,_,_,Ja,Ja,M,_,_,_,Ja,Ja,SqL.of Zw,em,?_⟩;refine gm ?_;exact ⟨p,cl,m,Ja,eT,m1,by omega,fun x H3 x0 xm s3 mU=>q x H3 x0 (by omega) (s2.trans s3) mU⟩
abbrev zlh:List Str:=[ao,aJ,"_law_at","_law_kind","_law_inner"]
theorem mj:FnScope zlh [ao,aJ] (defScope Hu):=fS
theorem zia (B:BI mg) (F:Fun K dj dj Hu f fd):FnOk P w K mg base CX0 (1) f fd [ao,aJ] (Xw K):=by
 refine F.ok mj (fun vs H Q E h=>?_) (fun _ A _ _ H vs Q E hr h=>?_)
 ·obtain ⟨v,pa,g,pl,k,rfl,_⟩:=h
  rfl
 obtain ⟨v,pa,g,pl,k,rfl,hg,lP,hb,q⟩:=h;have bA:=bt hr;refine ⟨_,Qc (ps_for PassesOwn.never rfl (pi_tup (pv 1)) (pg_name (i:=2) mj.nd rfl (.inl rfl))
   (Qc (ps_asg (Qm Ql (Qm Ql (pv 0) (pv 2) (fun _ _=>rfl)) Qg (fun _ _=>rfl)) (pg_tup rfl (Qi (pg_name (i:=3) mj.nd rfl (.inl rfl)) (Qi (pg_name (i:=4) mj.nd rfl (.inl rfl)) pgs_nil))))
  (Qe (ps_set (i:=0) mj.nd rfl (.inl rfl) (pv 4)))))
  (Qe (Qj (pv 3))),?_⟩
 have pne:=Gr.qN hb;refine ⟨_,Ja,pa,Ja,⟨_,lP⟩,?_⟩;refine for_it (walk_tup (xs:=pl.map fun n:Nat=>V.int (n:Int))) (fun i σ H2=>H2=H/\∃ (v2:V) (o2 o3 o4:Option V),σ=[some v2,some (.ref pa),o2,o3,o4]/\(i < pl.length->∃ h,GA K H v2 h/\Gr.bareAt h (pl.drop i)=some k)/\(i=pl.length->o3=some (.str k)))
  ⟨rfl,v,none,none,none,rfl,fun _=>⟨g,hg,hb⟩,fun e=>absurd (List.length_eq_zero_iff.mp e.symm) pne⟩ (fun i σ H2 hi h2=>by rw [h2.1]; exact lP) (fun i x σ H2 H' hi h2 y=>?_) (fun σ H2 h2=>?_)
 ·obtain ⟨rfl,v2,o2,o3,o4,rfl,dZ,_⟩:=h2;obtain ⟨rfl,ey⟩:=y;rw [Ye] at hi;rw [List.getElem?_map] at ey;obtain ⟨j,ej,rfl⟩:=Kr ey;obtain ⟨h,hh,bS⟩:=dZ hi;obtain ⟨ga,zs,rfl,hzs,Zi⟩:=nH hh;have zl:=Zi.length;have oP:pl.drop i=j::pl.drop (i+1):=by
   have e2:=Kq ej;rw [List.drop_eq_getElem_cons hi,e2.2]
  rw [oP] at bS;obtain ⟨p,ep,J6,JJ⟩:∃ p,h.ps[j]?=some p/\(i+1=pl.length->p.1=(k,.nil))/\(i+1 < pl.length->Gr.bareAt p.1.2 (pl.drop (i+1))=some k):=by
   by_cases hr:pl.drop (i+1)=[]
   ·rw [hr] at bS;obtain ⟨p,e1,e2⟩:=Gr.bT bS;exact ⟨p,e1,fun _=>e2,fun z=>by
     have:=congrArg List.length hr;rw [List.length_drop] at this;simp at this; omega⟩
   ·obtain ⟨p,e1,e2⟩:=Gr.bC hr bS;exact ⟨p,e1,fun z=>absurd (by rw [z,List.drop_length]) hr,fun _=>e2⟩
  have jl:=(Kq ep).1;have ez:zs[j]?=some zs[j]:=Kp (by omega);obtain ⟨p2,pf,fz⟩:=Zi.get ez;rw [ep] at pf;cases pf;obtain ⟨ad,td,ux,eu,dM,n5,i3,OO⟩:=nP fz;rw [eu] at ez;refine zm0 ?_;refine ⟨_,Ja,_,Ja,ga,_,_,_,Ja,Ja,hzs,atI_nat ez,ad,_,_,_,Ja,Ja,dM,atI_nat (j:=0) rfl,?_⟩;refine ⟨td,_,Ja,n5,Ja,_,_,Ja,_,_,Ja,Ja,?_⟩;refine ⟨_,Ja,cJ ?_⟩;exact ⟨rfl,_,_,_,_,Ja,fun z=>⟨p.1.2,i3,JJ z⟩,fun z=>by rw [J6 z]⟩
 ·obtain ⟨rfl,v2,o2,o3,o4,rfl,_,hd⟩:=h2;rw [hd (List.length_map ..)];exact ⟨_,Ja,q⟩
abbrev zlx:List Str:=[ai,ao,aJ,"_law_at"]
theorem ml:FnScope zlx [ai,ao] (defScope GV):=fS
theorem ziu (B:BI mg) (cg:Got P w K mg base bU [ai,aM] (1) (Ai)) (F:Fun K bP bP GV f fd):FnOk P w K mg base CX0 (2) f fd [ai,ao] (WO K):=by
 refine F.ok ml (fun vs H Q E h=>?_) (fun _ A _ _ H vs Q E hr h=>?_)
 ·obtain ⟨p,cl,v,g,C,rfl,_⟩:=h
  rfl
 obtain ⟨p,cl,v,g,C,rfl,hp,hg,go,gd,gp,gn,q⟩:=h;have bA:=bt hr;refine ⟨_,Qc (ps_set (i:=2) ml.nd rfl (.inl rfl) (Ka Qb))
  (Qc (ps_while PassesOwn.never (pt_cmpR (VL (by show A.units+3+195 < cLine; omega)) (pv 1) (Ka Qb) (nomark _)) (Qc (ps_set (i:=3) ml.nd rfl (.inl rfl) (aT cg (Hm hr) rfl (Qa (pv 0) (Qa (Qs call_len_seq rfl B.len PySem.boot_len (Qa (pv 1) Qb)) Qb))))
  (Qc (ps_set (i:=2) ml.nd rfl (.inl rfl) (pe_op zT (pv 2) (Ka (Qa (pv 3) Qb))))
  (Qe (ps_set (i:=1) ml.nd rfl (.inl rfl) (Qm Ql (Qm Ql (Qm Ql (pv 1) (pv 3) (fun _ _=>rfl)) Qg (fun _ _=>rfl)) Qg (fun _ _=>rfl)))))))
  (Qe (Qj (pv 2)))),?_⟩
 refine ⟨Z0,fun e0 RE=>?_⟩;have t1:=Jb RE (.tup []);have Ae:=iV (K:=K) t1;have gq:=hp.sb t1;have BY:=hg.sb t1;generalize upd H e0 _=H1 at t1 Ae gq BY;refine cJ ?_
 let Pv:Nat->L2.St->Hp->Prop:=fun d σ H2=>SB [p] H1 H2/\cu H2 p cl/\∃ (u:V) (pa:Addr) (pl:Pl) (h:Gr) (o3:Option V),σ=[some (.ref p),some u,some (.ref pa),o3]/\GA K H2 u h/\h.deep=d/\h.parts<=1000/\d+pl.length<=60/\(∃ C,h.Ok C)/\SqT K H2 pa (pl.map fun n:Nat=>V.int (n:Int))/\((h=.nil/\∃ k,Gr.bareAt g pl=some k)\/(h ≠ .nil/\∀ xB k,Gr.bareAt h xB=some k->Gr.bareAt g (pl++xB)=some k))
 refine ⟨Pv,⟨g.deep,SB.refl,gq,v,e0,[],g,none,Ja,BY,Ja,gp,by show g.deep+0<=60; omega,⟨C,go⟩,Ae,.inr ⟨gn,fun xB k e=>e⟩⟩,fun d σ H2 h=>?_⟩;obtain ⟨s2,eT,u,pa,pl,h,o3,rfl,DL,hd2,hpp,dl,⟨C2,hC⟩,JE,JG⟩:=h;refine ⟨_,Ja,Z0,fun z nz=>?_⟩;have t3:=Jb nz (.tup []);refine ⟨_,_,DL.sb t3,Ah (SqT.of Qt),Gr.wd hC (by omega),Gr.C0,_,Ja,?_⟩;rw [Gr.bc];have mU:=eT.sb t3;have ON:=DL.sb t3;have DV:=t3.aL JE;have s3:=s2.trans t3.nil;generalize upd H2 z _=H3 at t3 mU ON DV s3;clear s2 eT DL JE t3;rcases JG with ⟨hn,k,hk⟩ | ⟨hn,hk⟩
 ·rw [Ya hn];exact iteF ⟨_,Ja,q pa pl k H3 ((t1.nil (ps:=[p])).trans s3) mU DV hk⟩
 rw [Qz hn];refine iteT ?_;refine ⟨fun σ' H'=>∃ m',m' < d/\Pv m' σ' H',fun σ' H' z=>z,?_⟩;obtain ⟨ga,xs,rfl,i3,qX⟩:=nH ON;have xl:=qX.length;have hlp:=h.aF;have l0:0 < h.ps.length:=by
  cases h with
  | nil=>exact absurd rfl hn
  | cons k i m r=>exact Nat.succ_pos _
 refine ⟨_,Ja,_,Ja,ga,xs,Ja,.inr i3,p,cl,_,Ja,mU,by omega,by omega,fun r H4 r0 rm s4 qz=>?_⟩;obtain ⟨j,rfl⟩:∃ j:Nat,r=(j:Int):=⟨r.toNat,by omega⟩;refine cJ ?_;have SJ:=s4.aL i3;have Sk:=s4.aL DV;have SG:=qX.sb s4 Gr.aa;refine ⟨_,Ja,_,Ja,lH,fun M nM=>?_⟩;have t5:=Jb nM (.tup [.int (j:Nat)]);have KS:=iV (K:=K) t5;have JT:=t5.aL SJ;have JC:=t5.aL Sk;have og:=SG.sb t5 Gr.aa;have tf:=qz.sb t5;have s5:=(s3.trans s4).trans t5.nil;generalize upd H4 M _=H5 at t5 KS JT JC og tf s5;refine ⟨pa,M,_,_,Ja,Ja,JC,KS,by rw [Ye]; show pl.length+1<=10000000; omega,fun pb H6 s6 qV=>?_⟩;refine cJ ?_;have ez:xs[j]?=some xs[j]:=Kp (by omega);have SI:=s6.aL JT;obtain ⟨x,ex,hxd⟩:=(og.sb s6 Gr.aa).get ez;obtain ⟨ad,td,ux,eu,dM,n5,hgx,OO⟩:=nP hxd;rw [eu] at ez;have xm:=Qu ex;have x2:=(Gr.bW hC xm).2.1;have xd:x.1.2.deep < h.deep:=Gr.av _ _ xm;have xp:x.1.2.parts < h.parts:=Gr.bu _ _ xm;refine ⟨_,Ja,_,Ja,ga,_,_,_,Ja,Ja,SI,atI_nat ez,ad,_,_,_,Ja,Ja,dM,atI_nat (j:=0) rfl,td,_,_,_,Ja,Ja,n5,atI_nat (j:=1) rfl,?_⟩;refine cJ ?_;have eb:(pl.map fun n:Nat=>V.int (n:Int))++[V.int (j:Nat)]=(pl++[j]).map fun n:Nat=>V.int (n:Int):=by simp
 rw [eb] at qV;refine ⟨x.1.2.deep,by omega,s5.trans s6.nil,tf.sb s6,ux,pb,pl++[j],x.1.2,_,Ja,hgx,Ja,by omega,by rw [Yf,Yi]; omega,⟨C2,x2⟩,qV,?_⟩;by_cases xn:x.1.2=.nil
 ·exact .inl ⟨xn,x.1.1,hk [j] x.1.1 (by unfold Gr.bareAt; rw [ex]; simp [xn])⟩
 ·refine .inr ⟨xn,fun xB k e=>?_⟩;rw [List.append_assoc];refine hk _ k ?_;show Gr.bareAt h (j::xB)=some k;cases xB with
  | nil=>simp [Gr.bareAt] at e
  | cons y r =>
   unfold Gr.bareAt;rw [ex];simp only [reduceCtorEq,if_false];exact e
abbrev U1:List Str:=[bh,ao,lI,"_law_more","_law_at","_law_tree",aM]
theorem kM:FnScope U1 [bh,ao,lI] (defScope E3):=fS
theorem ziq {ae:Addr} (B:BI mg) (ly:Got P w K mg base bD [cP] (1) (Fz K)) (fK:Got P w K mg base cF [bh,ao,aJ,bF,a6] (95) (pH K ae)) (F:Fun K dk dk E3 f fd):FnOk P w K mg base CX0 (98) f fd [bh,ao,lI] (WN K ae):=by
 refine F.ok kM (fun vs H Q E h=>?_) (fun _ A _ s H vs Q E hr h=>?_)
 ·obtain ⟨v,w,c,rg,g,rfl,_⟩:=h
  rfl
 obtain ⟨v,w,c,rg,g,rfl,hR,q⟩:=h;have bA:=bt hr;refine ⟨_,Qc (ps_set (i:=3) kM.nd rfl (.inl rfl) (aT ly (Hm hr) rfl (Qa (pe_op op_cat (pe_callTy call_list_of rfl B.list boot_list (Qa (pv 1) Qb)) (pe_lst (Qa (Ka (Qa (Ka (Qa (pv 2) (Qa (Ka Qb) Qb))) (Qa Qg Qb))) Qb))) Qb)))
  (Qc (ps_set (i:=4) kM.nd rfl (.inl rfl) (Ka (Qa (Kn Ki PySem.F.slot_list_index PySem.F.type_list_index (Xf (by show A.units+3+196 < cLine; omega)) (pe_lc (own:=[("_law_tree",5),(aM,6)]) (g:=(gTup K 2 (gCons (gName 5) (gCons (gName 6) gNil)))) (tt:=tYes) (te:=(tVar 5)) rfl kM.nd (pi_tup (pv 3)) (blkOk_by (N:=U1) (sc:=defScope E3) (by decide +kernel)) (fun _ _ _ _ _=>(pg_tup rfl (Qi (pg_name (i:=5) kM.nd rfl (.inl rfl)) (Qi (pg_name (i:=6) kM.nd rfl (.inl rfl)) pgs_nil)))) (fun _ _ _ _ _=>pts_nil) (fun _ _ _ _ _=>(pv 5))) (Qa (Ka (Qa (pv 2) (Qa (Ka Qb) Qb))) Qb)) Qb)))
  (Qe (Qj (pe_and (pe_cmpR (op_eqD (ig hr)) (aT fK (Hm hr) rfl (Qa (pv 0) (Qa (pv 3) (Qa (Ka (Qa (Qs call_len_seq rfl B.len PySem.boot_len (Qa (pv 3) Qb)) Qb)) (Qa Qg (Qa (pe_un un_neg Qg) Qb)))))) (pe_lst (Qa pe_bl (Qa pe_bl (Qa pe_bl (Qa pe_bl Qb))))) (nomark _)) (pe_and (pe_cmpR (op_eqD (ig hr)) (aT fK (Hm hr) rfl (Qa (pv 0) (Qa (pv 3) (Qa (pv 4) (Qa Qg (Qa (pe_un un_neg Qg) Qb)))))) (pe_lst (Qa pe_bl (Qa pe_bl (Qa pe_bl (Qa pe_bl Qb))))) (nomark _)) (pe_and (pe_cmpR (op_eqD (ig hr)) (aT fK (Hm hr) rfl (Qa (pv 0) (Qa (pv 3) (Qa (pv 4) (Qa Qg (Qa (pe_un un_neg Qg) Qb)))))) (pe_lst (Qa pe_bl (Qa pe_bl (Qa pe_bl (Qa pe_bl Qb))))) (nomark _)) (pe_and (pe_cmpR (op_eqD (ig hr)) (aT fK (Hm hr) rfl (Qa (pv 0) (Qa (pv 3) (Qa (pv 4) (Qa Qg (Qa Qg Qb)))))) (pe_lst (Qa pe_str (Qa (pv 2) Qb))) (nomark _)) (pe_one (pe_cmpR (op_eqD (ig hr)) (aT fK (Hm hr) rfl (Qa (pv 0) (Qa (pv 3) (Qa (pv 4) (Qa Qg (Qa (pe_op op_pow Qg Qg) Qb)))))) (pe_lst (Qa pe_str (Qa (pv 2) Qb))) (nomark _)))))))))),?_⟩
 have jy:=sizeLine_eq;have gd:=hR.deep;have gp:=hR.parts;obtain ⟨ga,uI,rfl,i3,qX⟩:=nH hR.ga;have gxl:=qX.length;have O9:=g.aF;refine ⟨_,Ja,ga,uI,Ja,.inr i3,fun l1 OH=>?_⟩;have q1:=Jb OH (.lst uI);have i7:=eZ q1;have uE:=qX.sb q1 Gr.aa;generalize upd H l1 _=Q1 at q1 i7 uE;refine ⟨_,Ja,Z0,fun z1 yq=>?_⟩;have w1:=Jb yq (.tup []);have mT:=iV (K:=K) w1;generalize upd Q1 z1 _=W1 at w1 mT;refine ⟨dY,fun z2 AG=>?_⟩;have w2:=Jb AG (.tup [.str rg,.ref z1]);have yI:=iV (K:=K) w2;have uB:=w2.aL mT;have xV:=w1.trans w2;generalize upd W1 z2 _=W2 at w2 yI uB xV;refine ⟨dY,fun z3 Dw=>?_⟩;have w3:=Jb Dw (.tup [.ref z2,.int 2]);have qU:=iV (K:=K) w3;have DN:Dp K (upd W2 z3 (.tup [.ref z2,.int 2])) (.ref z3) (Gr.aB ((rg,.nil),2)):=.tup qU (.cons (.tup (w3.aL yI) (.cons (.str _) (.cons (Ah (w3.aL uB)) .nil))) (.cons (.int _) .nil));have xU:=xV.trans w3;generalize upd W2 z3 _=W3 at w3 qU DN xU;refine ⟨lH,fun l2 Dx=>?_⟩;have q5:=Jb Dx (.lst [.ref z3]);have h5:=eZ q5;have DM:=cI q5 _ _ (Gr.aa _) DN;have ym:=xU.trans q5;have D6:=ym.keep _ _ i7 aP;have og:=uE.sb ym Gr.aa;generalize upd W3 l2 _=Q5 at q5 h5 DM ym D6 og;refine ⟨l1,l2,_,_,Ja,Ja,D6,h5,by show uI.length+1<=sizeLine; omega,fun l3 Jd=>?_⟩;have q6:=Jb Jd (.lst (uI++[.ref z3]));have h6:=eZ q6;have ti:Bears K (upd Q5 l3 (.lst (uI++[.ref z3]))) Gr.aB (uI++[.ref z3]) (g.ps++[((rg,.nil),2)]):=(og.sb q6 Gr.aa).append (.cons (cI q6 _ _ (Gr.aa _) DM) .nil);have Dq:=(q1.trans ym).trans q6;generalize upd Q5 l3 _=Q6 at q6 h6 ti Dq;clear w1 mT w2 yI uB xV w3 qU DN xU q5 h5 DM ym D6 og i7 uE q1;obtain ⟨eL,eC,eD,eP,eN,eO,⟨m',eM⟩,eK,_⟩:=Wo (t:=(rg,.nil)) (m:=2) (ns:=c.names++[rg]) hR.xN gp gd hR.xA trivial (Nat.zero_le _) (Nat.zero_le _) (by decide) (by decide) (fun x hx=>jA _ (hR.nm x hx)) (kP _ (Kv rfl)) (fun x hx=>nomatch hx);refine ⟨l3,_,_,Ja,.inl (SqL.of h6),ti,eL,⟨2 ^ 110,eC⟩,fun ev Q7 q7 JZ=>?_⟩;generalize Gr.tidy (g.ps++[((rg,Gr.nil),(2:Int))])=k at JZ eD eP eN eO eM eK;refine cJ ?_;clear ti h6 eL eC;have q17:=Dq.trans q7;clear Dq q7 q6;obtain ⟨a,xs,rfl,hs,hb⟩:=nH JZ;have xl:=hb.length;have OL:=k.aF;have tm:=eM;have wV:=Gr.pos_at eO tm;refine ⟨_,Ja,a,Ja,⟨xs,hs⟩,fun D nD=>?_⟩;refine Py (walk_tup (xs:=xs)) [] nD (by simp) (by omega) (fun i us H2=>Bears K H2 Gr.aG us ((k.ps.take i).map fun p:Tr × Int=>p.1)) .nil (fun H2 s2=>s2.aL hs) (fun i us H2 H3 s3 h=>h.sb s3 Gr.ax) (fun Pv i x Hq H2 us hi s2 y xM hu aV fin _=>?_) (fun us H2 s2 aV xM zZ=>?_)
 ·obtain ⟨rfl,ey⟩:=y;obtain ⟨p,ep,fz⟩:=hb.get ey;obtain ⟨ad,bd,ux,rfl,h1,h2,h3,h4⟩:=nP fz;refine ⟨ad,_,Ja,s2.aL h1,Ja,_,_,Ja,_,_,Ja,Ja,Ja,_,Ja,fin _ _ SB.refl ?_⟩;rw [Yg,ep,Yj];exact xM.append (.cons (cI s2 _ _ (Gr.ax _) h4) .nil)
 rw [xl,Yh] at xM;have vz:DpAll K H2 us ((k.ps.map fun p:Tr × Int=>p.1).map Gr.aG):=Ij xM;have e:∀ i:Nat,((k.ps.map fun p:Tr × Int=>p.1).map Gr.aG)[i]?=(k.ps[i]?).map fun p=>Gr.aG p.1:=fun i=>by rw [List.getElem?_map,List.getElem?_map,Option.map_map]; rfl
 refine ⟨.inl ⟨rfl,_,SqL.of aV⟩,_,Ja,Z0,fun z1 yq=>?_⟩;have w1:=Jb yq (.tup []);have mT:=iV (K:=K) w1;have bH:=w1.keep _ _ aV aP;have Ej:=Ih w1 _ _ vz;generalize upd H2 z1 _=W1 at w1 mT bH Ej;refine ⟨dY,fun z2 AG=>?_⟩;have w2:=Jb AG (.tup [.str rg,.ref z1]);have DO:Dp K (upd W1 z2 (.tup [.str rg,.ref z1])) (.ref z2) (Gr.aG (rg,.nil)):=.tup (SqT.of Qt) (.cons (.str _) (.cons (Ah (w2.aL mT)) .nil));have jD:=w2.keep _ _ bH aP;have Ei:=Ih w2 _ _ Ej;have sY:=(s2.trans w1).trans w2;generalize upd W1 z2 _=W2 at w2 DO jD Ei sY;refine ⟨D,_,Gr.aG (rg,.nil),_,Gr.pos k (rg,.nil),Gr.aG (rg,.nil),Ja,Ja,.lst (SqL.of jD) Ei,DO,?_,Gr.xT (t:=(rg,.nil)) hR.xA (C:=2 ^ 119) trivial (by show (0:Nat)<=62; omega),?_,?_,fun j z' hj hz=>?_,?_⟩
 ·rw [List.map_map];exact Gr.um fun p hp=>by obtain ⟨h1,h2,_⟩:=Gr.bW eO hp; exact ⟨h1,h2⟩
 ·rw [e,wV]; rfl
 ·rw [Gr.ou]; simp
 ·rw [e] at hz;obtain ⟨p,ep,rfl⟩:=Kr hz;rw [Gr.ou];refine Qz fun z=>?_;have:=Gr.yo eO ep;rw [z] at this;omega
 generalize Gr.pos k (rg,.nil)=j at wV;refine ⟨lH,fun pa npa=>?_⟩;have t5:=Jb npa (.tup [.int (j:Nat)]);have lP:SqT K (upd W2 pa (.tup [.int (j:Nat)])) pa (([j]:Pl).map fun n:Nat=>V.int (n:Int)):=SqT.of Qt;have u7:=sY.trans t5;have u0:=q17.trans u7;generalize upd W2 pa _=G at t5 lP u7 u0;clear jD Ei DO w2 bH Ej mT w1 xM vz aV s2 sY t5;refine cJ ?_;have JZ:=JZ.sb u7;have hRG:=hR.ef u0;have hs:=u7.aL hs;have Gk:Gr.Named (Bk.names (my c rg)) k:=hR.names ▸ eN;have lst:=hR.least eN eK;have YD:=hR.nl;have oQ:Gr.bareAt k [j]=some rg:=by simp [Gr.bareAt,wV]
 have pin:∀ {H9:Hp} {pv:Addr} {xs:List V} {x y:V} {os:List (Option Int)} {ro so:Option Int},SB [] G H9->SqT K H9 pv xs->Whs K H9 xs os->Wh K H9 x ro->Wh K H9 y so->(∀ n,so=some n->n < 2 ^ 900)->Pin K H9 (.ref a) pv x y (my c rg) k os ro so:=fun s h1 h2 h3 h4 h5=>hR.pin (JZ.sb s) ⟨_,eO⟩ (by omega) (by omega) Gk (by omega) h1 h2 h3 h4 h5;have gk:=hR.get;have seen:∀ {H9:Hp} {Q:VK} {E:XK} {pv:Addr} {xs:List V} {x y:V} {os:List (Option Int)} {ro so:Option Int} (o:Ro) (e:Option Str),SB [] G H9->SqT K H9 pv xs->Whs K H9 xs os->Wh K H9 x ro->Wh K H9 y so->(∀ n,so=some n->n < 2 ^ 900)->pA (my c rg) k os ro so o e->¬ (o=.done/\e=none)->(∀ (T:Addr) (H':Hp),SB [] H9 H'->Dp K H' (.ref T) (.list (Rh o e))->Q (.ref T) H')->pH K ae [v,.ref a,.ref pv,x,y] H9 Q E:=fun {H9 Q E pv xs x y os ro so} o e s h1 h2 h3 h4 h5 hd n6 q=>⟨v,.ref a,x,y,pv,_,k,os,ro,so,o,e,rfl,hRG.bk.ef s,pin s h1 h2 h3 h4 h5,hd,n6,q⟩;have wi:∀ {H9:Hp} (i:Int),Wh K H9 (.int i) (some i):=fun i=>.inl ⟨i,rfl,rfl⟩;have u:SB [] G G:=SB.refl;refine ⟨_,Ja,_,Ja,_,Ja,a,_,Ja,.inr hs,?_⟩;refine ⟨lH,fun p1 RC=>?_⟩;have v1:=Jb RC (.tup [.int (xs.length:Nat)]);refine ⟨_,Ja,?_⟩;refine gm ?_;show pH K ae [_,_,_,V.int 9,V.int (-1)] _ _ _;refine seen .place none v1 (SqT.of Qt) (.cons (wi _) .nil) (wi _) (wi _) (fun n e=>by cases e; decide +kernel) ⟨.place Gk (Wu (by omega)),fun z=>nomatch z⟩ (fun z=>nomatch z.1) fun T1 H1 s1 B5=>?_;have u:=(u.trans v1).trans s1;refine ⟨uO,fun Z1 RK=>?_⟩;have e1:=Jb RK (.lst [.bl true,.bl false,.bl false,.bl true]);refine ⟨.list [.bool true,.bool false,.bool false,.bool true],.list [.bool true,.bool false,.bool false,.bool true],tE e1 _ _ B5,.lst (SqL.of Qt) (.cons (.bl _) (.cons (.bl _) (.cons (.bl _) (.cons (.bl _) .nil)))),by decide +kernel,by decide +kernel,?_⟩;refine ⟨_,Ja,?_⟩;rw [show PyData.eqv (.list [.bool true,.bool false,.bool false,.bool true]) (.list [.bool true,.bool false,.bool false,.bool true])=true by decide +kernel];refine iteT ?_;have u:=u.trans e1;generalize upd H1 Z1 _=G1 at e1 u;clear e1 B5;refine ⟨_,Ja,_,Ja,_,Ja,_,Ja,?_⟩;refine gm ?_;show pH K ae [_,_,_,V.int 9,V.int (-1)] _ _ _;refine seen .rule none u (u.aL lP) (Whs.pl K _ [j]) (wi _) (wi _) (fun n e=>by cases e; decide +kernel) ⟨.rule Gk rfl oQ gk (fun i e=>by
  have:i=9:=by have:=Yd e; omega
  subst this; rfl),fun z=>nomatch z⟩ (fun z=>nomatch z.1) fun T2 H2 s2 sG=>?_
 have u:=u.trans s2;refine ⟨uO,fun Z2 RJ=>?_⟩;have e2:=Jb RJ (.lst [.bl false,.bl true,.bl false,.bl true]);refine ⟨.list [.bool false,.bool true,.bool false,.bool true],.list [.bool false,.bool true,.bool false,.bool true],tE e2 _ _ sG,.lst (SqL.of Qt) (.cons (.bl _) (.cons (.bl _) (.cons (.bl _) (.cons (.bl _) .nil)))),by decide +kernel,by decide +kernel,?_⟩;refine ⟨_,Ja,?_⟩;rw [show PyData.eqv (.list [.bool false,.bool true,.bool false,.bool true]) (.list [.bool false,.bool true,.bool false,.bool true])=true by decide +kernel];refine iteT ?_;have u:=u.trans e2;generalize upd H2 Z2 _=G2 at e2 u;clear e2 sG;refine ⟨_,Ja,_,Ja,_,Ja,_,Ja,?_⟩;refine gm ?_;show pH K ae [_,_,_,V.int 0,V.int (-1)] _ _ _;refine seen .said none u (u.aL lP) (Whs.pl K _ [j]) (wi _) (wi _) (fun n e=>by cases e; decide +kernel) ⟨.said Gk rfl oQ gk (i:=0) rfl rfl (fun ⟨n,e⟩=>by have:=Yd e; omega),fun z=>nomatch z⟩ (fun z=>nomatch z.1) fun T3 H3 s3 oU=>?_;have u:=u.trans s3;refine ⟨uO,fun Z3 RI=>?_⟩;have e3:=Jb RI (.lst [.bl false,.bl false,.bl true,.bl true]);refine ⟨.list [.bool false,.bool false,.bool true,.bool true],.list [.bool false,.bool false,.bool true,.bool true],tE e3 _ _ oU,.lst (SqL.of Qt) (.cons (.bl _) (.cons (.bl _) (.cons (.bl _) (.cons (.bl _) .nil)))),by decide +kernel,by decide +kernel,?_⟩;refine ⟨_,Ja,?_⟩;rw [show PyData.eqv (.list [.bool false,.bool false,.bool true,.bool true]) (.list [.bool false,.bool false,.bool true,.bool true])=true by decide +kernel];refine iteT ?_;have u:=u.trans e3;generalize upd H3 Z3 _=G3 at e3 u;clear e3 oU;refine ⟨_,Ja,_,Ja,_,Ja,?_⟩;refine xQ (xQ (gm ?_));show pH K ae [_,_,_,V.int 0,V.int 0] _ _ _;refine seen .done (some rg) u (u.aL lP) (Whs.pl K _ [j]) (wi _) (wi _) (fun n e=>by cases e; decide +kernel) ⟨.done Gk rfl oQ gk (i:=0) (n:=0) rfl rfl rfl,rfl,lst⟩ (fun z=>nomatch z.2) fun T4 H4 s4 yV=>?_;have u:=u.trans s4;refine ⟨_,Ja,dY,fun Z4 RH=>?_⟩;have e4:=Jb RH (.lst [.str "endless",.str rg]);refine ⟨.list [.str "endless",.str rg],.list [.str "endless",.str rg],tE e4 _ _ yV,.lst (SqL.of Qt) (.cons (.str _) (.cons (.str _) .nil)),FO (by decide +kernel) hR.xA,FO (by decide +kernel) hR.xA,?_⟩;refine ⟨_,Ja,?_⟩;rw [Pu];refine iteT ?_;have u:=u.trans e4;generalize upd H4 Z4 _=G4 at e4 u;clear e4 yV;refine ⟨_,Ja,_,Ja,_,Ja,_,_,Ja,Ja,⟨by decide,by decide,by decide⟩,?_⟩;refine gm ?_;show pH K ae [_,_,_,V.int 1,V.int (10 ^ (9:Int).toNat)] _ _ _;refine seen .done (some rg) u (u.aL lP) (Whs.pl K _ [j]) (wi _) (wi _) (fun n e=>by cases e; decide +kernel) ⟨.done Gk rfl oQ gk (i:=1) (n:=1000000000) rfl rfl (by decide +kernel),rfl,lst⟩ (fun z=>nomatch z.2) fun T5 H5 s5 xf=>?_;have u:=u.trans s5;refine ⟨_,Ja,dY,fun Z5 RF=>?_⟩;have e5:=Jb RF (.lst [.str "endless",.str rg]);refine ⟨.list [.str "endless",.str rg],.list [.str "endless",.str rg],tE e5 _ _ xf,.lst (SqL.of Qt) (.cons (.str _) (.cons (.str _) .nil)),FO (by decide +kernel) hR.xA,FO (by decide +kernel) hR.xA,?_⟩;rw [Pu];exact q _ (u0.trans (u.trans e5))
abbrev Vl:List Str:=[bh,ay,ao,aJ,aM,"_law_strange","_law_more",bV]
theorem mf:FnScope Vl [bh,ay,ao,aJ,aM] (defScope Ff):=fS
theorem zhj {ae:Addr} (B:BI mg) (ly:Got P w K mg base bD [cP] (1) (Fz K)) (fK:Got P w K mg base cF [bh,ao,aJ,bF,a6] (95) (pH K ae)) (F:Fun K df df Ff f fd):FnOk P w K mg base CX0 (98) f fd [bh,ay,ao,aJ,aM] (WS K ae):=by
 refine F.ok mf (fun vs H Q E h=>?_) (fun _ A _ s H vs Q E hr h=>?_)
 ·obtain ⟨v,w,d,a,b,c,rg,g,pl,m,rfl,_⟩:=h
  rfl
 obtain ⟨v,w,d,a,b,c,rg,g,pl,m,rfl,A7,bl,xD,hR,OE,lP,fy,q⟩:=h;have bA:=bt hr;refine ⟨_,Qc (ps_set (i:=5) mf.nd rfl (.inl rfl) (pe_slice sl_list (pe_lc (own:=[(bV,7)]) (g:=(gName 7)) (tt:=(tB (tDNotIn (tVar 7) (tVar 1)))) (te:=(tVar 7)) rfl mf.nd (pi_str pe_str) (blkOk_by (N:=Vl) (sc:=defScope Ff) (by decide +kernel)) (fun _ _ _ _ _=>(pg_name (i:=7) mf.nd rfl (.inl rfl))) (fun _ _ _ _ _=>(pts_one (pt_cmp (pc_dnotin (u1 hr) (pv 7) (pv 1))))) (fun _ _ _ _ _=>(pv 7))) po_none (po_some Qg)))
  (Qc (ps_set (i:=6) mf.nd rfl (.inl rfl) (aT ly (Hm hr) rfl (Qa (pe_op op_cat (pe_callTy call_list_of rfl B.list boot_list (Qa (pv 2) Qb)) (pe_lst (Qa (Ka (Qa (Ka (Qa (Qm ix_list (pv 5) Qg (fun _ _=>rfl)) (Qa (Ka (Qa (Ka (Qa (Ka (Qa (Qm ix_list (pv 5) Qg (fun _ _=>rfl)) (Qa (Ka Qb) Qb))) (Qa Qg Qb))) Qb)) Qb))) (Qa Qg Qb))) Qb))) Qb)))
  (Qc (Qr (PW.pt (Kk (pt_cmpR (op_neD (ig hr)) (aT fK (Hm hr) rfl (Qa (pv 0) (Qa (pv 6) (Qa (Ka (Qa Qg Qb)) (Qa (pe_un un_neg Qg) (Qa pe_non Qb)))))) (pe_lst (Qa pe_str (Qa (Qm ix_list (pv 5) Qg (fun _ _=>rfl)) Qb))) (nomark _)) (Kk (pt_cmpR (op_neD (ig hr)) (aT fK (Hm hr) rfl (Qa (pv 0) (Qa (pv 2) (Qa (Ka (Qa (Qs call_len_seq rfl B.len PySem.boot_len (Qa (pv 2) Qb)) Qb)) (Qa pe_bl (Qa pe_non Qb)))))) (pe_lst (Qa pe_bl (Qa pe_bl (Qa pe_bl (Qa pe_bl Qb))))) (nomark _)) (pw_or1 (pt_cmpR (op_neD (ig hr)) (aT fK (Hm hr) rfl (Qa (pv 0) (Qa (pv 2) (Qa (Ka Qb) (Qa (pe_un un_neg Qg) (Qa pe_non Qb)))))) (pe_lst (Qa pe_bl (Qa pe_bl (Qa pe_bl (Qa pe_bl Qb))))) (nomark _)))))) (Qe (Qj pe_bl)) pss_nil)
  (Qc (Qr (pt_cmpR (op_eqD (ig hr)) (pv 2) (Ka Qb) (nomark _)) (Qe (Qj pe_bl)) pss_nil)
  (Qe (Qj (pe_and (pe_cmpR (op_eqD (ig hr)) (aT fK (Hm hr) rfl (Qa (pv 0) (Qa (pv 2) (Qa (pe_op zT (pv 3) (Ka (Qa Qg Qb))) (Qa (pe_op Ko (pv 4) Qg) (Qa (pe_un un_neg Qg) Qb)))))) (pe_lst (Qa pe_bl (Qa pe_bl (Qa pe_bl (Qa pe_bl Qb))))) (nomark _)) (pe_and (pe_cmpR (op_eqD (ig hr)) (aT fK (Hm hr) rfl (Qa (pv 0) (Qa (pv 2) (Qa (pv 3) (Qa (pe_op Ko (pv 4) Qg) (Qa (pe_un un_neg Qg) Qb)))))) (pe_lst (Qa pe_bl (Qa pe_bl (Qa pe_bl (Qa pe_bl Qb))))) (nomark _)) (pe_and (pe_cmpR (op_eqD (ig hr)) (aT fK (Hm hr) rfl (Qa (pv 0) (Qa (pv 2) (Qa (pv 3) (Qa (pe_un un_neg Qg) (Qa pe_non Qb)))))) (pe_lst (Qa pe_bl (Qa pe_bl (Qa pe_bl (Qa pe_bl Qb))))) (nomark _)) (pe_and (pe_cmpR (op_eqD (ig hr)) (aT fK (Hm hr) rfl (Qa (pv 0) (Qa (pv 2) (Qa (pv 3) (Qa pe_bl (Qa Qg Qb)))))) (pe_lst (Qa pe_bl (Qa pe_bl (Qa pe_bl (Qa pe_bl Qb))))) (nomark _)) (pe_and (pe_cmpR (op_eqD (ig hr)) (aT fK (Hm hr) rfl (Qa (pv 0) (Qa (pv 2) (Qa (pv 3) (Qa Qg (Qa pe_bl Qb)))))) (pe_lst (Qa pe_bl (Qa pe_bl (Qa pe_bl (Qa pe_bl Qb))))) (nomark _)) (pe_one (pe_cmpR (op_eqD (ig hr)) (aT fK (Hm hr) rfl (Qa (pv 0) (Qa (pv 2) (Qa (pv 3) (Qa (pv 4) (Qa (pe_un un_neg Qg) Qb)))))) (pe_lst (Qa pe_bl (Qa pe_bl (Qa pe_bl (Qa pe_bl Qb))))) (nomark _))))))))))))),?_⟩
 have jy:=sizeLine_eq;have gd:=hR.deep;have gp:=hR.parts;have cl:=hR.len;refine ⟨_,Ja,fun D nD=>?_⟩;refine oo (walk_str (z:="klmnopqrst")) nD (by show 10 < sizeLine; decide) (fun i ws _=>ws=((g9.take i).filter fun n=>decide (n ∉ b.names)).map V.str) rfl (fun _ _=>trivial) (fun _ _ _ _ _ h=>h) (fun Pv i x Hq H3 ws hi s3 y xM hu fin skip=>?_) (fun ws H3 s3 bH xM hu=>?_)
 ·obtain ⟨rfl,c',ec,rfl⟩:=y;refine ⟨rfl,?_⟩;have ea:=zf6 ec;obtain ⟨o,ho,hb⟩:=(A7.sb s3 aP kr.nil).has (⟨#[c']⟩:Str);refine ⟨_,Ja,_,Ja,d,o,Ja,ho,?_⟩;have stp:=Ve (N:=b.names) ea;rw [hb];by_cases hm:(⟨#[c']⟩:Str) ∈ b.names
  ·rw [Ya hm];refine ⟨_,Ja,iteF (skip _ SB.refl ?_)⟩;rw [stp,if_neg (fun z=>z hm),Kz]; exact xM
  ·rw [Qz hm];refine ⟨_,Ja,iteT ⟨_,Ja,fin _ _ SB.refl ?_⟩⟩;rw [stp,if_pos hm,Yj,xM]; rfl
 rw [show (g9.take ("klmnopqrst":Str).cps.size)=g9 from by decide +kernel] at xM;rw [xM] at bH;clear xM hu;obtain ⟨k0,k1,ek,YO,k1m,k0n,k1n,k01⟩:=zdn bl;refine ⟨2,Ja,D,_,Ja,SqL.of bH,fun U nU=>?_⟩;have eU:cutV ((g9.filter fun n=>decide (n ∉ b.names)).map V.str) none (some 2)=[V.str k0,V.str k1]:=by
  rw [show (2:Int)=((2:Nat):Int) from rfl,N1,<- List.map_take,ek]; rfl
 rw [eU];have t4:=Jb nU (.lst [.str k0,.str k1]);have Td:=eZ t4;have s4:=s3.trans t4;generalize upd H3 U _=H4 at t4 Td s4;refine cJ ?_;have RW:=V2 _ YO;have k1o:=V2 _ k1m;have k0r:k0 ≠ rg:=fun z=>OE (z ▸ YO);have k0c:k0 ∉ c.names:=fun z=>k0n ((xD _).mp z);obtain ⟨ga,uI,rfl,SM,SH⟩:=nH hR.ga;have Y8:∀ {H9:Hp},SB [] H H9->SqT K H9 ga uI:=fun s=>s.aL SM;have i3:=Y8 s4;have qX:=SH.sb s4 Gr.aa;have gxl:=qX.length;have O9:=g.aF;refine ⟨_,Ja,ga,uI,Ja,.inr i3,fun l1 OH=>?_⟩;have q1:=Jb OH (.lst uI);have i7:=eZ q1;have uE:=qX.sb q1 Gr.aa;have Tc:=q1.keep _ _ Td aP;generalize upd H4 l1 _=Q1 at q1 i7 uE Tc;refine ⟨_,Ja,U,_,_,_,Ja,Ja,SqL.of Tc,atI_nat (j:=1) rfl,_,Ja,U,_,_,_,Ja,Ja,SqL.of Tc,atI_nat (j:=0) rfl,?_⟩;refine ⟨Z0,fun z1 yq=>?_⟩;have w1:=Jb yq (.tup []);have mT:=iV (K:=K) w1;generalize upd Q1 z1 _=W1 at w1 mT;refine ⟨dY,fun z2 AG=>?_⟩;have w2:=Jb AG (.tup [.str k0,.ref z1]);have yI:=iV (K:=K) w2;have uB:=w2.aL mT;have xV:=w1.trans w2;generalize upd W1 z2 _=W2 at w2 yI uB xV;refine ⟨dY,fun z3 Dw=>?_⟩;have w3:=Jb Dw (.tup [.ref z2,.int 3]);have qU:=iV (K:=K) w3;have DN:Dp K (upd W2 z3 (.tup [.ref z2,.int 3])) (.ref z3) (Gr.aB ((k0,.nil),3)):=.tup qU (.cons (.tup (w3.aL yI) (.cons (.str _) (.cons (Ah (w3.aL uB)) .nil))) (.cons (.int _) .nil));have xU:=xV.trans w3;generalize upd W2 z3 _=W3 at w3 qU DN xU;refine ⟨lH,fun z4 IZ=>?_⟩;have w4:=Jb IZ (.tup [.ref z3]);have SO:GA K (upd W3 z4 (.tup [.ref z3])) (.ref z4) (.cons k0 .nil 3 .nil):=CU (bs:=[((k0,.nil),3)]) (SqT.of Qt) (.cons (cI w4 _ _ (Gr.aa _) DN) .nil);have C4:=xU.trans w4;generalize upd W3 z4 _=W4 at w4 SO C4;refine ⟨dY,fun z5 Du=>?_⟩;have w5:=Jb Du (.tup [.str k1,.ref z4]);have xE:=iV (K:=K) w5;have SN:=GA.sb SO w5;have C3:=C4.trans w5;generalize upd W4 z5 _=W5 at w5 xE SN C3;refine ⟨dY,fun z6 Rv=>?_⟩;have w6:=Jb Rv (.tup [.ref z5,.int 2]);have F8:Dp K (upd W5 z6 (.tup [.ref z5,.int 2])) (.ref z6) (Gr.aB ((k1,.cons k0 .nil 3 .nil),2)):=.tup (SqT.of Qt) (.cons (.tup (w6.aL xE) (.cons (.str _) (.cons (GA.sb SN w6) .nil))) (.cons (.int _) .nil));have C1:=C3.trans w6;generalize upd W5 z6 _=W6 at w6 F8 C1;refine ⟨lH,fun l2 Dx=>?_⟩;have q5:=Jb Dx (.lst [.ref z6]);have h5:=eZ q5;have DM:=cI q5 _ _ (Gr.aa _) F8;have ym:=C1.trans q5;have D6:=ym.keep _ _ i7 aP;have og:=uE.sb ym Gr.aa;generalize upd W6 l2 _=Q5 at q5 h5 DM ym D6 og;refine ⟨l1,l2,_,_,Ja,Ja,D6,h5,by show uI.length+1<=sizeLine; omega,fun l3 Jd=>?_⟩;have q6:=Jb Jd (.lst (uI++[.ref z6]));have h6:=eZ q6;have ti:Bears K (upd Q5 l3 (.lst (uI++[.ref z6]))) Gr.aB (uI++[.ref z6]) (g.ps++[((k1,.cons k0 .nil 3 .nil),2)]):=(og.sb q6 Gr.aa).append (.cons (cI q6 _ _ (Gr.aa _) DM) .nil);have Dq:=(q1.trans ym).trans q6;generalize upd Q5 l3 _=Q6 at q6 h6 ti Dq;clear w1 mT w2 yI uB xV w3 qU DN xU w4 SO C4 w5 xE SN C3 w6 F8 C1 q5 h5 DM ym D6 og i7 uE q1;obtain ⟨eL,eC,eD,eP,eN,eO,_,_,eK⟩:=Wo (t:=(k1,.cons k0 .nil 3 .nil)) (m:=2) (ns:=c.names++[k0,k1]) hR.xN gp gd k1o (zhs RW (by decide) (by decide)) (Nat.le_of_ble_eq_true rfl) (Nat.le_of_ble_eq_true rfl) (by decide) (by decide) (fun x hx=>jA _ (hR.nm x hx)) (kP _ (by simp)) (fun x hx=>by
  have hx:x ∈ [((k0,Gr.nil),(3:Int))]:=hx;rw [Qy hx]; exact kP _ (by simp))
 have ZV:=eK ((k0,.nil),3) (bM ..);refine ⟨l3,_,_,Ja,.inl (SqL.of h6),ti,eL,⟨2 ^ 110,eC⟩,fun mv Q7 q7 Y5=>?_⟩;generalize Gr.tidy (g.ps++[((k1,Gr.cons k0 .nil 3 .nil),(2:Int))])=k at Y5 eD eP eN eO ZV;refine cJ ?_;clear ti h6 eL eC eK;have u7:=Dq.trans q7;have u0:=s4.trans u7;have hU:=u7.keep _ _ Td aP;have wW:∀ {H9:Hp},SB [] H H9->SqT K H9 a (pl.map fun n:Nat=>V.int (n:Int)):=fun s=>s.aL lP;clear Dq q7 q6 qX;have tq:=hR.YB;have far:=hR.far eN ZV k0c k0r k01;have YD:=hR.nl;have cnl:c.names.length=c.length:=List.length_map ..;have wi:∀ {H9:Hp} (i:Int),Wh K H9 (.int i) (some i):=fun i=>.inl ⟨i,rfl,rfl⟩;have seen:∀ {H9:Hp} {Q:VK} {E:XK} {u:V} {h:Gr} {ns:List Str} {pv:Addr} {xs:List V} {x y:V} {os:List (Option Int)} {ro so:Option Int} (o:Ro) (e:Option Str),hJ K ae H9 v (my c rg)->GA K H9 u h->(∃ D,h.Ok D)->h.deep<=14->h.parts<=40->Gr.Named ns h->ns.length<=60->SqT K H9 pv xs->Whs K H9 xs os->Wh K H9 x ro->Wh K H9 y so->(∀ n,so=some n->n < 2 ^ 900)->pA (my c rg) h os ro so o e->¬ (o=.done/\e=none)->(∀ (T:Addr) (H':Hp),SB [] H9 H'->Dp K H' (.ref T) (.list (Rh o e))->Q (.ref T) H')->pH K ae [v,u,.ref pv,x,y] H9 Q E:=fun {H9 Q E u h ns pv xs x y os ro so} o e hb hg ho hd hp hn hl h1 h2 h3 h4 h5 SY n6 q=>⟨v,u,x,y,pv,_,h,os,ro,so,o,e,rfl,hb,⟨hR.rd.ok,hg,ho,hd,hp,⟨ns,hn,hl⟩,⟨xs,h1,h2⟩,h3,h4,h5⟩,SY,n6,q⟩;have u:SB [] H Q7:=u0;have A8:∀ {H9:Hp},SB [] H H9->hJ K ae H9 v (my c rg):=fun s=>hR.bk.ef s;have A6:∀ {H9:Hp},SB [] H H9->GA K H9 (.ref ga) g:=fun s=>hR.ga.sb s;have Jc:∀ n:Int,(none:Option Int)=some n->n < 2 ^ 900:=fun n z=>nomatch z;have Uk:∀ {H9:Hp} (x:Bool),Wh K H9 (.bl x) none:=fun x=>U0 (d:=.bool x) (.bl x);have OG:∀ {H9:Hp},Wh K H9 .non none:=U0 (d:=.none) .non;have Cf:∃ D,g.Ok D:=⟨_,hR.xN⟩;have ek2:∃ D,k.Ok D:=⟨_,eO⟩;refine ⟨_,Ja,_,Ja,lH,fun p1 RC=>?_⟩;have v1:=Jb RC (.tup [.int 99]);have gq:=iV (K:=K) v1;have xI:=Y5.sb v1;have u:=u.trans v1;generalize upd Q7 p1 _=X1 at v1 gq xI u;refine ⟨_,Ja,?_⟩;refine xQ (gm ?_);show pH K ae [_,_,_,V.int (-1),V.non] _ _ _;refine seen (.kind k0) none (A8 u) xI ek2 (by omega) (by omega) eN (by rw [Yf]; show _+2<=60; omega) gq (.cons (wi _) .nil) (wi _) OG Jc ⟨.kindG far,fun z=>nomatch z⟩ (fun z=>nomatch z.1) fun T1 H1 s1 B5=>?_;have u:=u.trans s1;refine ⟨_,Ja,U,_,_,_,Ja,Ja,SqL.of ((v1.trans s1).keep _ _ hU aP),atI_nat (j:=0) rfl,dY,fun Z1 RK=>?_⟩;have e1:=Jb RK (.lst [.str "kind",.str k0]);refine ⟨.list [.str "kind",.str k0],.list [.str "kind",.str k0],tE e1 _ _ B5,.lst (SqL.of Qt) (.cons (.str _) (.cons (.str _) .nil)),FO (by decide +kernel) RW,FO (by decide +kernel) RW,?_⟩;refine ⟨_,Ja,?_⟩;rw [show (!PyData.eqv (.list [.str "kind",.str k0]) (.list [.str "kind",.str k0]))=false by rw [Pu]; rfl];refine iteF ?_;have u:=u.trans e1;generalize upd H1 Z1 _=G1 at e1 u;clear e1 B5;refine ⟨_,Ja,_,Ja,_,Ja,ga,_,Ja,.inr (Y8 u),lH,fun p2 np2=>?_⟩;have v2:=Jb np2 (.tup [.int (uI.length:Nat)]);have eT:=iV (K:=K) v2;have u:=u.trans v2;generalize upd G1 p2 _=X2 at v2 eT u;refine xQ (xQ (gm ?_));show pH K ae [_,_,_,V.bl true,V.non] _ _ _;refine seen .place none (A8 u) (A6 u) Cf (by omega) (by omega) tq (by omega) eT (.cons (wi _) .nil) (Uk _) OG Jc ⟨.place tq (Wu (by omega)),fun z=>nomatch z⟩ (fun z=>nomatch z.1) fun T2 H2 s2 sG=>?_;have u:=u.trans s2;refine ⟨uO,fun Z2 RJ=>?_⟩;have e2:=Jb RJ (.lst [.bl true,.bl false,.bl false,.bl true]);refine ⟨.list [.bool true,.bool false,.bool false,.bool true],.list [.bool true,.bool false,.bool false,.bool true],tE e2 _ _ sG,.lst (SqL.of Qt) (.cons (.bl _) (.cons (.bl _) (.cons (.bl _) (.cons (.bl _) .nil)))),by decide +kernel,by decide +kernel,?_⟩;refine ⟨_,Ja,?_⟩;rw [show (!PyData.eqv (.list [.bool true,.bool false,.bool false,.bool true]) (.list [.bool true,.bool false,.bool false,.bool true]))=false by decide +kernel];refine iteF ?_;have u:=u.trans e2;generalize upd H2 Z2 _=G2 at e2 u;clear e2 sG;refine ⟨_,Ja,_,Ja,Z0,fun p3 np3=>?_⟩;have v3:=Jb np3 (.tup []);have mU:=iV (K:=K) v3;have u:=u.trans v3;generalize upd G2 p3 _=X3 at v3 mU u;refine ⟨_,Ja,?_⟩;refine xQ (gm ?_);show pH K ae [_,_,_,V.int (-1),V.non] _ _ _;refine seen .place none (A8 u) (A6 u) Cf (by omega) (by omega) tq (by omega) mU .nil (wi _) OG Jc ⟨.place tq zdr,fun z=>nomatch z⟩ (fun z=>nomatch z.1) fun T3 H3 s3 oU=>?_;have u:=u.trans s3;refine ⟨uO,fun Z3 RI=>?_⟩;have e3:=Jb RI (.lst [.bl true,.bl false,.bl false,.bl true]);refine ⟨.list [.bool true,.bool false,.bool false,.bool true],.list [.bool true,.bool false,.bool false,.bool true],tE e3 _ _ oU,.lst (SqL.of Qt) (.cons (.bl _) (.cons (.bl _) (.cons (.bl _) (.cons (.bl _) .nil)))),by decide +kernel,by decide +kernel,?_⟩;refine ⟨_,Ja,?_⟩;rw [show (!PyData.eqv (.list [.bool true,.bool false,.bool false,.bool true]) (.list [.bool true,.bool false,.bool false,.bool true]))=false by decide +kernel];refine iteF ?_;have u:=u.trans e3;generalize upd H3 Z3 _=G3 at e3 u;clear e3 oU;refine CN ?_;refine ⟨_,Ja,Z0,fun z0 Rw=>?_⟩;have e0:=Jb Rw (.tup []);refine ⟨g.enc,.tuple [],(A6 u).sb e0,.tup (SqT.of Qt) .nil,Gr.aH hR.xN (by omega),by decide +kernel,_,Ja,?_⟩;have u:=u.trans e0;generalize upd G3 z0 _=X0 at e0 u;rw [Gr.mZ];by_cases h0:g=.nil
 ·rw [Ya h0];exact iteT (q _ u)
 rw [Qz h0];refine iteF (CN ?_);obtain ⟨kn,kd,hb,eg,rfl⟩:=fy h0;have knm:=Gr.fE hR.nm hb;have K7:(my c rg).get kn=some kd:=(hR.rd.same kn knm).symm.trans eg
 -- below the place
 refine ⟨_,Ja,_,Ja,_,Ja,lH,fun p4 np4=>?_⟩;have v4:=Jb np4 (.tup [.int 0]);have qz:=iV (K:=K) v4;have u:=u.trans v4;generalize upd X0 p4 _=X4 at v4 qz u;refine ⟨a,p4,_,_,Ja,Ja,wW u,qz,by rw [Ye]; show pl.length+1<=10000000; have:=Gr.fF hb; omega,fun p5 X5 v5 tf=>?_⟩;have u:=u.trans v5;refine ⟨_,Ja,_,_,Ja,Ja,_,Ja,?_⟩;refine gm ?_;show pH K ae [_,_,_,V.int ((kd.rs.length:Nat)+1),V.int (-1)] _ _ _;refine seen .place none (A8 u) (A6 u) Cf (by omega) (by omega) tq (by omega) tf ((Whs.pl K _ pl).append (.cons (wi _) .nil)) (wi _) (wi _) (fun n e=>by cases e; decide +kernel) ⟨.place tq (zey hb rfl),fun z=>nomatch z⟩ (fun z=>nomatch z.1) fun T4 H4 s4 yV=>?_;have u:=u.trans s4;refine ⟨uO,fun Z4 RH=>?_⟩;have e4:=Jb RH (.lst [.bl true,.bl false,.bl false,.bl true]);refine ⟨.list [.bool true,.bool false,.bool false,.bool true],.list [.bool true,.bool false,.bool false,.bool true],tE e4 _ _ yV,.lst (SqL.of Qt) (.cons (.bl _) (.cons (.bl _) (.cons (.bl _) (.cons (.bl _) .nil)))),by decide +kernel,by decide +kernel,?_⟩;refine ⟨_,Ja,?_⟩;rw [show PyData.eqv (.list [.bool true,.bool false,.bool false,.bool true]) (.list [.bool true,.bool false,.bool false,.bool true])=true by decide +kernel];refine iteT ?_;have u:=u.trans e4;generalize upd H4 Z4 _=G4 at e4 u;clear e4 yV;refine ⟨_,Ja,_,Ja,_,Ja,_,Ja,_,_,Ja,Ja,_,Ja,?_⟩;refine gm ?_;show pH K ae [_,_,_,V.int ((kd.rs.length:Nat)+1),V.int (-1)] _ _ _;refine seen .rule none (A8 u) (A6 u) Cf (by omega) (by omega) tq (by omega) (wW u) (Whs.pl K _ pl) (wi _) (wi _) (fun n e=>by cases e; decide +kernel) ⟨.rule tq rfl hb K7 (fun i e=>by have:=Yd e; exact List.getElem?_eq_none (by rw [Yk]; omega)),fun z=>nomatch z⟩ (fun z=>nomatch z.1) fun T5 H5 s5 xf=>?_;have u:=u.trans s5;refine ⟨uO,fun Z5 RF=>?_⟩;have e5:=Jb RF (.lst [.bl false,.bl true,.bl false,.bl true]);refine ⟨.list [.bool false,.bool true,.bool false,.bool true],.list [.bool false,.bool true,.bool false,.bool true],tE e5 _ _ xf,.lst (SqL.of Qt) (.cons (.bl _) (.cons (.bl _) (.cons (.bl _) (.cons (.bl _) .nil)))),by decide +kernel,by decide +kernel,?_⟩;refine ⟨_,Ja,?_⟩;rw [show PyData.eqv (.list [.bool false,.bool true,.bool false,.bool true]) (.list [.bool false,.bool true,.bool false,.bool true])=true by decide +kernel];refine iteT ?_;have u:=u.trans e5;generalize upd H5 Z5 _=G5 at e5 u;clear e5 xf;refine ⟨_,Ja,_,Ja,_,Ja,_,Ja,?_⟩;refine xQ (gm ?_);show pH K ae [_,_,_,V.int (-1),V.non] _ _ _;refine seen .rule none (A8 u) (A6 u) Cf (by omega) (by omega) tq (by omega) (wW u) (Whs.pl K _ pl) (wi _) OG Jc ⟨.rule tq rfl hb K7 (fun i e=>by have:=Yd e; omega),fun z=>nomatch z⟩ (fun z=>nomatch z.1) fun T6 H6 s6 Zr=>?_;have u:=u.trans s6;refine ⟨uO,fun Z6 nZ6=>?_⟩;have e6:=Jb nZ6 (.lst [.bl false,.bl true,.bl false,.bl true]);refine ⟨.list [.bool false,.bool true,.bool false,.bool true],.list [.bool false,.bool true,.bool false,.bool true],tE e6 _ _ Zr,.lst (SqL.of Qt) (.cons (.bl _) (.cons (.bl _) (.cons (.bl _) (.cons (.bl _) .nil)))),by decide +kernel,by decide +kernel,?_⟩;refine ⟨_,Ja,?_⟩;rw [show PyData.eqv (.list [.bool false,.bool true,.bool false,.bool true]) (.list [.bool false,.bool true,.bool false,.bool true])=true by decide +kernel];refine iteT ?_;have u:=u.trans e6;generalize upd H6 Z6 _=G6 at e6 u;clear e6 Zr;refine ⟨_,Ja,_,Ja,_,Ja,?_⟩;refine xQ (xQ (gm ?_));show pH K ae [_,_,_,V.bl false,V.int 0] _ _ _;refine seen .rule none (A8 u) (A6 u) Cf (by omega) (by omega) tq (by omega) (wW u) (Whs.pl K _ pl) (Uk _) (wi _) (fun n e=>by cases e; decide +kernel) ⟨.rule tq rfl hb K7 (fun i e=>nomatch e),fun z=>nomatch z⟩ (fun z=>nomatch z.1) fun T7 H7 s7 Zq=>?_;have u:=u.trans s7;refine ⟨uO,fun Z7 nZ7=>?_⟩;have e7:=Jb nZ7 (.lst [.bl false,.bl true,.bl false,.bl true]);refine ⟨.list [.bool false,.bool true,.bool false,.bool true],.list [.bool false,.bool true,.bool false,.bool true],tE e7 _ _ Zq,.lst (SqL.of Qt) (.cons (.bl _) (.cons (.bl _) (.cons (.bl _) (.cons (.bl _) .nil)))),by decide +kernel,by decide +kernel,?_⟩;refine ⟨_,Ja,?_⟩;rw [show PyData.eqv (.list [.bool false,.bool true,.bool false,.bool true]) (.list [.bool false,.bool true,.bool false,.bool true])=true by decide +kernel];refine iteT ?_;have u:=u.trans e7;generalize upd H7 Z7 _=G7 at e7 u;clear e7 Zq;refine ⟨_,Ja,_,Ja,_,Ja,?_⟩;refine xQ (xQ (gm ?_));show pH K ae [_,_,_,V.int 0,V.bl true] _ _ _;refine seen .said none (A8 u) (A6 u) Cf (by omega) (by omega) tq (by omega) (wW u) (Whs.pl K _ pl) (wi _) (Uk _) Jc ⟨.said tq rfl hb K7 (i:=0) rfl rfl (fun ⟨n,e⟩=>nomatch e),fun z=>nomatch z⟩ (fun z=>nomatch z.1) fun T8 H8 s8 KL=>?_;have u:=u.trans s8;refine ⟨uO,fun Z8 nZ8=>?_⟩;have e8:=Jb nZ8 (.lst [.bl false,.bl false,.bl true,.bl true]);refine ⟨.list [.bool false,.bool false,.bool true,.bool true],.list [.bool false,.bool false,.bool true,.bool true],tE e8 _ _ KL,.lst (SqL.of Qt) (.cons (.bl _) (.cons (.bl _) (.cons (.bl _) (.cons (.bl _) .nil)))),by decide +kernel,by decide +kernel,?_⟩;refine ⟨_,Ja,?_⟩;rw [show PyData.eqv (.list [.bool false,.bool false,.bool true,.bool true]) (.list [.bool false,.bool false,.bool true,.bool true])=true by decide +kernel];refine iteT ?_;have u:=u.trans e8;generalize upd H8 Z8 _=G8 at e8 u;clear e8 KL;obtain ⟨ru,EA⟩:∃ ru,(lN::kd.rs)[kd.rs.length]?=some ru:=⟨_,Kp (by rw [Yk]; omega)⟩;refine ⟨_,Ja,_,Ja,_,Ja,_,Ja,_,Ja,?_⟩;refine gm ?_;show pH K ae [_,_,_,V.int (kd.rs.length:Nat),V.int (-1)] _ _ _;refine seen .said none (A8 u) (A6 u) Cf (by omega) (by omega) tq (by omega) (wW u) (Whs.pl K _ pl) (wi _) (wi _) (fun n e=>by cases e; decide +kernel) ⟨.said tq rfl hb K7 (i:=kd.rs.length) rfl EA (fun ⟨n,e⟩=>by have:=Yd e; omega),fun z=>nomatch z⟩ (fun z=>nomatch z.1) fun T9 H9 s9 OZ=>?_;have u:=u.trans s9;refine ⟨uO,fun Z9 nZ9=>?_⟩;have e9:=Jb nZ9 (.lst [.bl false,.bl false,.bl true,.bl true]);refine ⟨.list [.bool false,.bool false,.bool true,.bool true],.list [.bool false,.bool false,.bool true,.bool true],tE e9 _ _ OZ,.lst (SqL.of Qt) (.cons (.bl _) (.cons (.bl _) (.cons (.bl _) (.cons (.bl _) .nil)))),by decide +kernel,by decide +kernel,?_⟩;rw [show PyData.eqv (.list [.bool false,.bool false,.bool true,.bool true]) (.list [.bool false,.bool false,.bool true,.bool true])=true by decide +kernel];exact q _ ((u.trans e9))
abbrev UX:List Str:=[bJ,ai,ay,lI,bh,ao,aJ,"_law_rules",bF,a6,"_law_ahead","_law_after",bE,bV]
theorem du:FnScope UX [bJ] (defScope CK):=fS
theorem zh1 {ae j5 aw cb cZ bX eB:Addr} (B:BI mg) (Nl:Got P w K mg base iA [bJ] (1) (Vh K)) (UM:Got P w K mg base b6 [ai,tA] (16) (V8 K)) (UO:GotI P w K mg base "Book" ae [a8,"kinds"] (88) (NY K ae j5)) (Nr:Got P w K mg base fq [ay,lS] (1) (Wm K)) (cg:Got P w K mg base bU [ai,aM] (1) (Ai)) (pz:Got P w K mg base aW [ai,bx,cO,dQ] (14) (BA K 13)) (Nu:Got P w K mg base dk [bh,ao,lI] (98) (WN K ae)) (CG:Got P w K mg base df [bh,ay,ao,aJ,aM] (98) (WS K ae)) (Nv:Got P w K mg base bP [ai,ao] (2) (WO K)) (Nt:Got P w K mg base dj [ao,aJ] (1) (Xw K)) (Nk:Got P w K mg base gF [ai] (2) (VX)) (ny:Got P w K mg base cw [ay,br,ao] (220) (Bw K 177)) (zO:Got P w K mg base cQ [ay,ao,aJ,bF,a6] (21) (FC K 20)) (zJ:GotX P w K mg base dP [aq,ah,bq,aZ,aN] (80) (N2 K ae aw cb cZ bX eB)) (zN:Got P w K mg base a5 [bE,iB] (40) (FJ K 40)) (zP:Got P w K mg base cS [aD,au] (40) (FI K 40)) (F:Fun K "law" "law" CK f fd):FnOk P w K mg base CX0 (230) f fd [bJ] (spLaw K):=by
 refine F.ok du (fun vs H Q E h=>?_) (fun _ A _ s H vs Q E hr h=>?_)
 ·obtain ⟨a,ns,rfl,_⟩:=h
  rfl
 obtain ⟨a,ns,rfl,hs,nl,q⟩:=h;have bA:=bt hr;refine ⟨_,Qc (ps_set (i:=1) du.nd rfl (.inl rfl) (aT Nl (Hm hr) rfl (Qa (pv 0) Qb)))
  (Qc (ps_set (i:=2) du.nd rfl (.inr rfl) (aT UM (Hm hr) rfl (Qa (pv 1) (Qa Qg Qb))))
  (Qc (ps_set (i:=3) du.nd rfl (.inl rfl) (Qm ix_list (pe_lc (own:=[(bV,13)]) (g:=(gName 13)) (tt:=(tB (tDNotIn (tVar 13) (tVar 2)))) (te:=(tVar 13)) rfl du.nd (pi_str pe_str) (blkOk_by (N:=UX) (sc:=defScope CK) (by decide +kernel)) (fun _ _ _ _ _=>(pg_name (i:=13) du.nd rfl (.inl rfl))) (fun _ _ _ _ _=>(pts_one (pt_cmp (pc_dnotin (u1 hr) (pv 13) (pv 2))))) (fun _ _ _ _ _=>(pv 13))) Qg (fun _ _=>rfl)))
  (Qc (ps_set (i:=4) du.nd rfl (.inl rfl) (zf5 UO (Hm hr) rfl (Qa (pe_op op_cat (aT Nr (Hm hr) rfl (Qa (pv 2) (Qa (pe_cmpR op_eq (aT cg (Hm hr) rfl (Qa (pv 1) (Qa Qg Qb))) Qg (nomark _)) Qb))) (pe_lst (Qa (Ka (Qa (pv 3) (Qa pe_bl (Qa (pe_lst (Qa (Ka (Qa (Ka Qb) (Qa (Ka (Qa (Ka (Qa (Ka (Qa (pv 3) (Qa (Ka Qb) Qb))) (Qa Qg Qb))) Qb)) Qb))) Qb)) Qb)))) Qb))) Qb)))
  (Qc (ps_set (i:=5) du.nd rfl (.inl rfl) (aT pz (Hm hr) rfl (Qa (pv 1) (Qa (pe_callTy (call_listD rfl) rfl B.list boot_list (Qa (pv 2) Qb)) (Qa (aT cg (Hm hr) rfl (Qa (pv 1) (Qa Qg Qb))) (Qa (pe_op op_pow Qg Qg) Qb))))))
  (Qc (Qr (Qp (Qo (aT Nu (Hm hr) rfl (Qa (pv 4) (Qa (pv 5) (Qa (pv 3) Qb)))))) (Qe (Qj pe_bl)) pss_nil)
  (Qc (Qr (pt_cmpR (op_eqD (ig hr)) (pv 5) (Ka Qb) (nomark _)) (Qe (Qj (aT CG (Hm hr) rfl (Qa (pv 4) (Qa (pv 2) (Qa (pv 5) (Qa (Ka Qb) (Qa Qg Qb)))))))) pss_nil)
  (Qc (ps_set (i:=6) du.nd rfl (.inl rfl) (aT Nv (Hm hr) rfl (Qa (pv 1) (Qa (pv 5) Qb))))
  (Qc (ps_set (i:=7) du.nd rfl (.inl rfl) (Qm Ql (pe_dget (u1 hr) (pv 2) (aT Nt (Hm hr) rfl (Qa (pv 5) (Qa (pv 6) Qb))) (fun _ _=>rfl)) Qg (fun _ _=>rfl)))
  (Qc (ps_set (i:=8) du.nd rfl (.inl rfl) (aT cg (Hm hr) rfl (Qa (pv 1) (Qa (pe_op Ko Qg (Qs call_len_seq rfl B.len PySem.boot_len (Qa (pv 7) Qb))) Qb))))
  (Qc (ps_set (i:=9) du.nd rfl (.inl rfl) (aT Nk (Hm hr) rfl (Qa (pv 1) Qb)))
  (Qc (ps_set (i:=10) du.nd rfl (.inl rfl) (aT ny (Hm hr) rfl (Qa (pv 2) (Qa pe_dnewK (Qa (pv 5) Qb)))))
  (Qc (ps_set (i:=11) du.nd rfl (.inl rfl) (aT ny (Hm hr) rfl (Qa (pv 2) (Qa pe_dnewK (Qa (aT zO (Hm hr) rfl (Qa (pv 2) (Qa (pv 5) (Qa (pv 6) (Qa (pv 8) (Qa (pv 9) Qb)))))) Qb)))))
  (Qc (Qr (Qp (Qo (aT CG (Hm hr) rfl (Qa (pv 4) (Qa (pv 2) (Qa (pv 5) (Qa (pv 6) (Qa (Qs call_len_seq rfl B.len PySem.boot_len (Qa (pv 7) Qb)) Qb)))))))) (Qe (Qj pe_bl)) pss_nil)
  (Qc (ps_set (i:=12) du.nd rfl (.inl rfl) (NW zJ (Hm hr) rfl (Qa (pv 4) (Qa (pv 5) (Qa (pv 6) (Qa (pv 8) (Qa (pv 9) Qb)))))))
  (Qc (Qr (PW.pt (Kk (Qp (Qo (tF B (pv 12) B.tuple boot_tuple))) (Kk (pt_cmpR op_ne (Qs call_len_seq rfl B.len PySem.boot_len (Qa (pv 12) Qb)) Qg (nomark _)) (pw_or1 (pt_cmpR (op_neD (ig hr)) (pe_slice CS (pv 12) po_none (po_some Qg)) (Ka (Qa (pv 10) (Qa (pv 11) Qb))) (nomark _)))))) (Qe (Qj pe_bl)) pss_nil)
  (Qe (Qj (aT zN (Hm hr) rfl (Qa (Qm Ql (pv 12) Qg (fun _ _=>rfl)) (Qa (aT zP (Hm hr) rfl (Qa (pv 10) (Qa (pv 11) Qb))) Qb)))))))))))))))))))),?_⟩
 have jy:=sizeLine_eq;refine ⟨_,Ja,a,ns,Ja,hs,nl,fun p H1 s1 np hp=>?_⟩;obtain ⟨cl,hp⟩:=cu.of hp;refine cJ ?_;refine ⟨_,Ja,p,cl,5,Ja,hp,by decide,by decide,fun d b H2 s2 eT nd dp A7 drawn=>?_⟩;refine cJ ?_;have b5:=drawn.len;have b1:=drawn.ok.pos;have bnl:b.names.length=b.length:=List.length_map ..;have FX:∀ {H:Hp},cu H p cl->kr H [p]:=fun h=>by obtain ⟨aS,h⟩:=h.DI; exact kr.one h
 -- the ring's name
 refine ⟨_,Ja,fun D nD=>?_⟩;refine oo (walk_str (z:="jihgfedcba")) nD (by show 10 < sizeLine; decide) (fun i ws _=>ws=((jv.take i).filter fun n=>decide (n ∉ b.names)).map V.str) rfl (fun _ _=>trivial) (fun _ _ _ _ _ h=>h) (fun Pv i x Hq H3 ws hi s3 y hR hu fin skip=>?_) (fun ws H3 s3 bH hR hu=>?_)
 ·obtain ⟨rfl,c,ec,rfl⟩:=y;refine ⟨rfl,?_⟩;have ea:=zfa ec;obtain ⟨o,ho,hb⟩:=(A7.sb s3 aP kr.nil).has (⟨#[c]⟩:Str);refine ⟨_,Ja,_,Ja,d,o,Ja,ho,?_⟩;have stp:=Ve (N:=b.names) ea;rw [hb];by_cases hm:(⟨#[c]⟩:Str) ∈ b.names
  ·rw [Ya hm];refine ⟨_,Ja,iteF (skip _ SB.refl ?_)⟩;rw [stp,if_neg (fun z=>z hm),Kz]; exact hR
  ·rw [Qz hm];refine ⟨_,Ja,iteT ⟨_,Ja,fin _ _ SB.refl ?_⟩⟩;rw [stp,if_pos hm,Yj,hR]; rfl
 rw [show (jv.take ("jihgfedcba":Str).cps.size)=jv from by decide +kernel] at hR;rw [hR] at bH;clear hR hu;obtain ⟨rg,erg,Ys,rgn⟩:=zdi (ns:=b.names) (by omega);refine ⟨D,_,_,_,Ja,Ja,SqL.of bH,atI_nat (j:=0) (by rw [List.getElem?_map,erg]; rfl),?_⟩;refine cJ ?_;have xA:=zeu _ Ys;have mU:=eT.sb s3;have J9:=A7.sb s3 aP kr.nil;have sZ:SB [p] H2 H3:=s3.nil;clear bH A7 hp eT s3
 -- the book
 refine ⟨_,Ja,_,Ja,p,cl,2,Ja,mU,by decide,by decide,fun r4 H4 _ _ s4 qz=>?_⟩;refine ⟨rfl,?_⟩;generalize decide (V.int r4=V.int 1)=wd;have Em:=J9.sb s4 (by simpa using dp) (FX mU);refine ⟨d,b,wd,Ja,Em,by omega,fun L xs H5 s5 nL hL JO=>?_⟩;obtain ⟨c,ec,JO⟩:∃ c:Bk,(c=b\/c=b.reverse)/\KdAll K H5 [L] xs c:=⟨_,by cases wd <;> simp,JO⟩;obtain ⟨same,xD,lv,M⟩:=drawn.made (Yc 5) ec;have cl5:c.length<=5:=by
  rcases ec with rfl | rfl
  ·exact b5
  ·rw [List.length_reverse]; exact b5
 have xl:=JO.length;have JN:=JO.less (bad':=[]) (by simp);have rgc:rg ∉ c.names:=fun z=>rgn ((xD _).mp z);have RG:=zc0 (In55.Dk M.ok (by omega) (fun n hn=>(xD n).mpr hn) xA rgc (.one xA) (.inr rfl));refine ⟨_,Ja,Z0,fun z1 yq=>?_⟩;have w1:=Jb yq (.tup []);have h1:=iV (K:=K) w1;generalize upd H5 z1 _=W1 at w1 h1;refine ⟨_,Ja,Z0,fun z2 AG=>?_⟩;have w2:=Jb AG (.tup []);have h2:=iV (K:=K) w2;have h1:=w2.aL h1;have xV:=w1.trans w2;generalize upd W1 z2 _=W2 at w2 h1 h2 xV;refine ⟨dY,fun z3 Dw=>?_⟩;have w3:=Jb Dw (.tup [.str rg,.ref z2]);have h3:Dp K (upd W2 z3 (.tup [.str rg,.ref z2])) (.ref z3) (Gr.aG (rg,.nil)):=.tup (SqT.of Qt) (.cons (.str _) (.cons (Ah (w3.aL h2)) .nil));have h1:=w3.aL h1;have xU:=xV.trans w3;generalize upd W2 z3 _=W3 at w3 h1 h3 xU;refine ⟨dY,fun z4 IZ=>?_⟩;have w4:=Jb IZ (.tup [.ref z3,.int 1]);have h4:Dp K (upd W3 z4 (.tup [.ref z3,.int 1])) (.ref z4) (Gr.aB ((rg,.nil),1)):=.tup (SqT.of Qt) (.cons (cI w4 _ _ (Gr.ax _) h3) (.cons (.int _) .nil));have h1:=w4.aL h1;have C4:=xU.trans w4;generalize upd W3 z4 _=W4 at w4 h1 h4 C4;refine ⟨lH,fun z5 Du=>?_⟩;have w5:=Jb Du (.tup [.ref z4]);have h5:GA K (upd W4 z5 (.tup [.ref z4])) (.ref z5) (.cons rg .nil 1 .nil):=CU (bs:=[((rg,.nil),1)]) (SqT.of Qt) (.cons (cI w5 _ _ (Gr.aa _) h4) .nil);have h1:=w5.aL h1;have C3:=C4.trans w5;generalize upd W4 z5 _=W5 at w5 h1 h5 C3;refine ⟨dY,fun z6 Rv=>?_⟩;have w6:=Jb Rv (.tup [.ref z1,.ref z5]);have h6:Dp K (upd W5 z6 (.tup [.ref z1,.ref z5])) (.ref z6) (Ru.enc (.nil,.cons rg .nil 1 .nil)):=.tup (SqT.of Qt) (.cons (Ah (w6.aL h1)) (.cons (GA.sb h5 w6) .nil));have C1:=C3.trans w6;generalize upd W5 z6 _=W6 at w6 h6 C1;refine ⟨lH,fun z7 nz7=>?_⟩;have w7:=Jb nz7 (.lst [.ref z6]);have h7:=eZ w7;have h6:=cI w7 _ _ (Ru.aj _) h6;have QO:=C1.trans w7;generalize upd W6 z7 _=W7 at w7 h7 h6 QO;refine ⟨Gn,fun z8 nz8=>?_⟩;have w8:=Jb nz8 (.tup [.str rg,.bl true,.ref z7]);have h8:=iV (K:=K) w8;have h7:=w8.keep _ _ h7 aP;have h6:=cI w8 _ _ (Ru.aj _) h6;have QN:=QO.trans w8;generalize upd W7 z8 _=W8 at w8 h8 h7 h6 QN;refine ⟨lH,fun z9 nz9=>?_⟩;have w9:=Jb nz9 (.lst [.ref z8]);have h9:=eZ w9;have h8:=w9.aL h8;have h7:=w9.keep _ _ h7 aP;have h6:=cI w9 _ _ (Ru.aj _) h6;have Iw:=QN.trans w9;have Ep:=Iw.keep _ _ hL aP;have D8:=JN.sb Iw d6.nil;generalize upd W8 z9 _=W9 at w9 h9 h8 h7 h6 Iw Ep D8;refine ⟨L,z9,_,_,Ja,Ja,Ep,h9,by show xs.length+1<=sizeLine; omega,fun MM nMM=>?_⟩;have t4:=Jb nMM (.lst (xs++[.ref z8]));have Ti:=eZ t4;have AZ:KdAll K (upd W9 MM (.lst (xs++[.ref z8]))) [] (xs++[.ref z8]) (my c rg):=(D8.sb t4 d6.nil).append (.cons ⟨z8,z7,[.ref z6],rfl,t4.aL h8,t4.keep _ _ h7 aP,.cons (cI t4 _ _ (Ru.aj _) h6) .nil,aP⟩ .nil);have C5:=Iw.trans t4;generalize upd W9 MM _=G4 at t4 Ti AZ C5;refine gm ?_;refine zca (Q:=fun x H1=>gName 4 x _ H1 _) (bad:=[]) Ti AZ RG.ok fun bk H6 s6 nbk OY=>?_;refine cJ ?_;have Ow:=(s5.trans C5).trans s6;have xH:=qz.sb Ow;have El:=Em.sb Ow aP kr.nil;have Oy:SB [p] H2 H6:=(sZ.trans s4).trans Ow.nil;clear w1 h1 h2 w2 xV h3 w3 xU h4 w4 C4 h5 w5 C3 h6 w6 C1 h7 w7 QO h8 w8 QN h9 w9 Iw Ep D8 JN JO hL Ti AZ C5 t4 s5 s6 Ow mU qz J9 Em s4 sZ
 -- the grove
 obtain ⟨us,Ge,fy⟩:=id El;have ul:=fy.length;have Ua:(jT b.names us).map (fun kv=>kV kv.1)=b.names.map V.str:=by
  have h:=PY (ns:=b.names) (us:=us) (by omega);have h2:=congrArg (List.map kV) h;rw [List.map_map,List.map_map] at h2;exact h2
 refine ⟨_,Ja,_,Ja,d,_,Ja,.inl Ge,fun N nN=>?_⟩;rw [Ua];have t6:=Jb nN (.lst (b.names.map V.str));have Gg:=eZ t6;have Np:N ≠ p:=(xH.ne nN).symm;have BV:=xH.sb t6;generalize upd H6 N _=H7 at t6 Gg BV;refine ⟨_,Ja,p,cl,9,Ja,BV,by decide,by decide,fun r7 H8 r70 r79 s8 AV=>?_⟩;refine ⟨_,_,Ja,Ja,⟨by decide,by decide,by decide⟩,?_⟩;obtain ⟨gn,egn⟩:∃ gn:Nat,r7=(gn:Int):=⟨r7.toNat,by omega⟩;subst egn;have Zv:=s8.keep _ _ Gg (by simpa using Np);have e30:(10:Int) ^ (30:Int).toNat=10 ^ 30:=rfl;refine gm ?_;show BA K 13 [.ref p,.ref N,.int ((gn:Nat):Int),.int (10 ^ (30:Int).toNat)] _ _ _;rw [e30];refine ⟨p,N,cl,b.names,gn,10 ^ 30,Ja,AV,⟨Zv,Np,by omega,fun n hn=>drawn.ok.names n hn⟩,by omega,by omega,by decide,by decide,fun gv g H9 s9 BU OV go gp gd Ce _=>?_⟩;refine cJ ?_;have As:SB [p] H6 H9:=(t6.nil.trans s8).trans s9;have J8:=El.sb As (by simpa using dp) (FX xH);have KA:=OY.Rp xH As;clear Ge fy Gg Zv t6 s8 s9 El OY xH BV AV Oy As;have sH:Gr.Named c.names g:=fun x hx=>(xD _).mpr (Ce x hx);have Bl:g.Ok (2 ^ 110):=go.mono (by
  have h1:(gn:Int)*10 ^ 30<=8*10 ^ 30:=Int.mul_le_mul_of_nonneg_right (by omega) (by decide);have h2:(8:Int)*10 ^ 30+1<=2 ^ 110:=by decide
  omega)
 have ZJ:g.parts<=8:=by omega
 have ZL:g.deep<=8:=by omega
 have R9:Rg52 K ae H9 (.ref bk) gv c rg g:=⟨KA,RG,cl5,M.ok,M.ends,xA,OV,Bl,ZL,ZJ,sH⟩;have OE:=zet _ Ys;clear KA OV;refine ⟨_,Ja,_,Ja,_,Ja,.ref bk,gv,c,rg,g,Ja,R9,fun xO Aw=>?_⟩;refine ⟨_,Ja,iteF (CN ?_)⟩;have Uz:=R9.ef Aw;have B1:=J8.sb Aw aP kr.nil;have sy:=BU.sb Aw;clear R9 J8 BU;refine ⟨_,Ja,Z0,fun z nz=>?_⟩;have t1:=Jb nz (.tup []);refine ⟨g.enc,.tuple [],Uz.ga.sb t1,.tup (SqT.of Qt) .nil,Gr.aH Bl (by omega),by decide +kernel,_,Ja,?_⟩;have MC:=Uz.ef t1;have vD:=B1.sb t1 aP kr.nil;have mV:=sy.sb t1;generalize upd xO z _=CB at t1 MC vD mV;clear Uz B1 sy;rw [Gr.mZ];by_cases h0:g=.nil
 ·rw [Ya h0];refine iteT ⟨_,Ja,_,Ja,_,Ja,Z0,fun x1 nx1=>?_⟩;have w1:=Jb nx1 (.tup []);exact ⟨.ref bk,gv,d,x1,b,c,rg,g,[],0,Ja,vD.sb w1 aP kr.nil,by omega,xD,MC.ef w1,OE,SqT.of Qt,fun z=>absurd h0 z,fun H s=>q _⟩
 rw [Qz h0];refine iteF (CN ?_)
 -- the fall
 refine ⟨_,Ja,_,Ja,p,cl,gv,g,_,Ja,mV,MC.ga,Bl,by omega,by omega,h0,fun pa pl k UL jz sv lP hb=>?_⟩;refine cJ ?_;have MB:=MC.bk.Rp mV jz;have Ef:=MC.ga.sb jz;have vC:=vD.sb jz (by simpa using dp) (FX mV);have kn:=Gr.fE sH hb;obtain ⟨kd,eg⟩:=Bk.dw kn;obtain ⟨km,Ua⟩:=Bk.get_some eg;have k4:=(M.ok.kd kd km).2.1;obtain ⟨us5,Ge,DU⟩:=vC;obtain ⟨kv,e6,t6,l6,Pg,rfl,k6,k7,k8⟩:=N0 DU ((same k).trans eg);have zl6:=k8.length;have vC:xw K UL d b:=⟨us5,Ge,DU⟩;refine ⟨_,Ja,_,Ja,_,Ja,gv,pa,g,pl,k,Ja,Ef,lP,hb,d,_,Ja,iN Ge e6,t6,_,_,_,Ja,Ja,k6,atI_nat (j:=1) rfl,?_⟩;refine cJ ?_;refine ⟨_,Ja,_,Ja,l6,Pg,Ja,.inl (SqL.of k7),_,_,Ja,Ja,?_⟩;refine gm ?_;refine ⟨p,cl,_,Ja,sv,by omega,by omega,fun rr H13 rr0 rrm BJ AW=>?_⟩;refine cJ ?_;obtain ⟨ri,rfl⟩:∃ ri:Nat,rr=(ri:Int):=⟨rr.toNat,by omega⟩;refine ⟨_,Ja,p,cl,Ja,AW,fun n UK n0 n9 OC DW=>?_⟩;refine cJ ?_;have sY:=BJ.trans OC;have vB:=vC.sb sY (by simpa using dp) (FX sv);have KC:=MB.Rp sv sY;have Ee:=Ef.sb sY;have BS:=sY.aL lP;have Lp:l6 ≠ p:=fun z=>by
  obtain ⟨aS,h⟩:=sv.DI;rw [z,h] at k7; cases k7
 have k7':=sY.keep _ _ k7 (by simpa using Lp);obtain ⟨ru,EA⟩:∃ ru,(lN::kd.rs)[ri]?=some ru:=⟨_,Kp (by rw [Yk]; omega)⟩;clear vC Ge DU MB Ef lP k6 k7 BJ sv AW jz mV vD OC;have R14:Rg52 K ae UK (.ref bk) gv c rg g:=⟨KC,RG,cl5,M.ok,M.ends,xA,Ee,Bl,ZL,ZJ,sH⟩;have GD:=M.K5 (Bl.mono (by decide)) sH (by omega) (by omega);have go2:g.Ok (2 ^ 119):=Bl.mono (by decide)
 -- behind the fall
 have ij:=P1 (fun r hr=>((M.ok.kd kd km).2.2 r hr).1) EA;have De:=Qu EA;have gg:=Gr.oV M.OK.toGoods kn eg De n0;have d1:=Gr.gL (b:=c) (n:=n) (fr:=Gr.fM ru n) hb;have p1:=Gr.iX (b:=c) (n:=n) (fr:=Gr.fM ru n) hb;have AF:=Gr.fF hb;have few:ru.1.parts+ru.2.parts<=3:=by
  rcases Qv De with rfl | hm
  ·decide
  ·exact drawn.few kd (by rcases ec with rfl | rfl; exact km; exact List.mem_reverse.mp km) _ hm
 have O8:(Gr.fM ru n).parts<=3:=by
  have h1:=Gr.iW ru.1 (Gr.dJ ru.2 n);have h2:=Gr.gJ ru.2 n;show (Gr.ki ru.1 (Gr.dJ ru.2 n)).parts<=3;omega
 have Pa:(Gr.fM ru n).deep<=3:=Yb (pJ _) O8;have p2:pl.length*(g.parts+1)<=8*9:=Nat.mul_le_mul (by omega) (by omega);have so1:=Gr.kA (b:=c) n0 (by omega) gg.1 Bl hb;have so:(Gr.stk c n (Gr.fM ru n) pl g).1.Ok (2 ^ 119):=so1.mono (by
  have h3:(2:Int) ^ 110+(1000000001*10 ^ 9+2000000002)+10 ^ 9+2<=2 ^ 119:=by decide
  omega)
 have sn:=Gr.kD (b:=c) (n:=n) gg.2.1 hb sH;have GS:=M.K5 so sn (by omega) (by omega);have slt:=Gr.rL M.OK.toGoods eg De n0 Bl sH hb;have vk:∀ {H9:Hp} {e:Addr} {u:V} {h:Gr} {Q:VK} {E:XK},xw K H9 d b->H9 e=some (.dK [])->d ≠ e->GA K H9 u h->h.Ok (2 ^ 119)->Gr.hI c (cW c) c.names h->h.deep<=14->h.parts<=120->Gr.Named c.names h->(∀ (x:V) (H':Hp),SB [e] H9 H'->LA K H' x (Gr.rk c (cW c) h)->Q x H')->Bw K 177 [.ref d,.ref e,u] H9 Q E:=fun {H9 e u h Q E} A7 he de hu ho hf hd hp hn q =>
  ⟨d,e,u,c,cW c,c.names,[],lv,h,_,8,rfl,A7.l same,de,M.OK,⟨⟨[],he,.nil⟩,List.nodup_nil,fun _ h=>nomatch h⟩,⟨hu,ho,hf,by omega,by omega⟩,fun x hx=>M.OK.low _ (hn x hx),by omega,fun x H7 ms7 s7 M7 _ hx=>q x H7 s7 hx⟩
 have ZY:∀ {H9:Hp} {e:Addr},xw K H9 d b->H9 e=none->d ≠ e:=fun A7 ne z=>by
  obtain ⟨us,h,_⟩:=A7;rw [z,ne] at h; cases h
 -- the rank ahead
 refine ⟨_,Ja,fun e1 ne1=>?_⟩;have t1:=Jb ne1 (.dK []);have Ae:=eZ t1;have de1:=ZY vB ne1;have yQ:=vB.sb t1 aP kr.nil;have Ed:=Ee.sb t1;generalize upd UK e1 _=H15 at t1 Ae yQ Ed;refine ⟨_,Ja,?_⟩;refine gm ?_;refine vk yQ Ae de1 Ed go2 GD.Me (by omega) (by omega) sH fun x1 UJ BH lO=>?_;refine cJ ?_;have yf:SB [] UK UJ:=((t1.nil (ps:=[e1])).trans BH).drop ne1;have yP:=vB.sb yf aP kr.nil;have JV:=Ee.sb yf;have BR:=yf.aL BS;clear yQ Ed Ae BH t1
 -- the rank behind
 refine ⟨_,Ja,fun e2 ne2=>?_⟩;have t2:=Jb ne2 (.dK []);have qY:=eZ t2;have de2:=ZY yP ne2;have vA:=yP.sb t2 aP kr.nil;have Ec:=JV.sb t2;have yK:=t2.aL BR;have Jr:=lO.sb t2;generalize upd UJ e2 _=H17 at t2 qY vA Ec yK Jr;have nB:n < 2 ^ 2000:=Int.lt_trans n9 (by decide +kernel);refine ⟨_,Ja,_,Ja,_,Ja,_,Ja,_,Ja,d,pa,gv,c,g,pl,k,kd,ri,ru,n,_,Ja,vA.l same,⟨M.ok,sH⟩,⟨Ec,go2,by omega,by omega⟩,yK,hb,eg,EA,n0,nB,by omega,fun y H18 OA hy=>?_⟩;have B0:=vA.sb OA aP kr.nil;refine gm ?_;refine vk B0 (OA.keep _ _ qY aP) de2 hy so GS.Me (by omega) (by omega) sn fun x2 H19 Yn lu=>?_;refine cJ ?_;have Dc:SB [] UJ H19:=(((t2.trans OA).nil (ps:=[e2])).trans Yn).drop ne2;have Av:=yf.trans Dc;have R7:=lO.sb Dc;have Kb:=vB.sb Av aP kr.nil;have R19:=R14.ef Av;have BQ:=Av.aL BS;have RV:=Av.keep _ _ k7' aP;clear B0 vA Ec yK Jr qY t2 OA Yn yP JV BR lO hy Dc yf
 -- what is refused
 refine ⟨_,Ja,_,Ja,_,Ja,_,Ja,_,Ja,l6,Pg,Ja,.inl (SqL.of RV),?_⟩;refine gm ?_;refine ⟨.ref bk,gv,d,pa,b,c,rg,g,pl,Pg.length,Ja,Kb,by omega,xD,R19,OE,BQ,fun _=>⟨k,kd,hb,eg,zl6.symm⟩,fun H20 Oz=>?_⟩;refine ⟨_,Ja,iteF (CN ?_)⟩;have MA:=R19.ef Oz;have R6:=R7.sb Oz;have R3:=lu.sb Oz;have JD:=Oz.aL BQ
 -- the paper
 have ZK:=MA.YB;have YD:=MA.nl;have kB:(my c rg).get k=some kd:=(RG.same k kn).symm.trans eg;have ow:=RG.own M.ok M.ends M.own;have Mf:∀ {h:Gr},GrvD c h->Gr.Named c.names h->∀ ns,(∀ n ∈ Bk.names (my c rg),EndK (my c rg) n->n ∈ ns)->Gr.eA (my c rg) (cW c) ns h:=fun G hn ns h=>Gr.eA.on RG.same (fun n _ hn=>RG.sub n hn) hn (G.TN ns fun n hn he=>h n (RG.sub n hn) (RG.ends M.ok he hn));have zY:∀ {h:Gr},Gr.Named c.names h->Gr.rk (my c rg) (cW c) h=Gr.rk c (cW c) h:=fun hn=>(Gr.i6 RG.same hn).symm;have QR:Gr.stk (my c rg) n (Gr.fM ru n) pl g=Gr.stk c n (Gr.fM ru n) pl g:=(Gr.x5 RG.same sH).symm;have TZ:∀ x ∈ g.within,EndK (my c rg) x.1.1:=fun x hx=>RG.ends M.ok (M.ends _ (sH x hx)) (sH x hx);have TY:(some n:Option Int)=some ((n.toNat:Nat):Int):=by rw [Int.toNat_of_nonneg n0]
 have gsd:=GS.deep;have gdd:=GD.deep;have gsp:=GS.parts;have gdp:=GD.parts;have RO:n < 2 ^ 900:=Int.lt_trans n9 (by decide +kernel);refine ⟨_,Ja,_,Ja,_,Ja,_,Ja,_,Ja,.ref bk,gv,.int (ri:Nat),.int n,pa,my c rg,g,ik pl,some (ri:Int),some n,.done,none,Ja,MA.bk,MA.pin MA.ga ⟨_,Bl⟩ (by omega) (by omega) ZK (by omega) JD (Whs.pl K _ pl) (.inl ⟨_,Ja,Ja⟩) (.inl ⟨_,Ja,Ja⟩) (fun m e=>by cases e; exact RO),⟨.done ZK rfl hb kB rfl EA TY,fun _=>TZ⟩,?_⟩;intro xB k' F5 i' r' n' e1 e2 e3 e4 e5 e6 _;obtain rfl:=Pz e1;rw [hb] at e2;cases e2;rw [kB] at e3;cases e3;obtain rfl:ri=i':=by have:=Yd e4; omega
 rw [EA] at e5;cases e5;cases e6;rw [QR];refine ⟨cW c,⟨ow,by omega,by omega,Mf GD sH,by rw [zY sH]; omega⟩,⟨ow,by omega,by omega,Mf GS sn,by rw [zY sn]; omega⟩,⟨by rw [zY sH,zY sn]; exact slt,by rw [zY sH]; omega,by rw [zY sn]; omega,by rw [zY sH]; omega,by rw [zY sn]; omega⟩,fun T y1 y2 y3 H21 Ym hT YR Jp RY=>?_⟩;rw [zY sH] at YR RY;rw [zY sn] at Jp RY;refine cJ ?_;have R5:=R6.sb Ym;have R0:=R3.sb Ym;refine ⟨_,rfl,_,_,"tuple",true,rfl,xy hT,by decide +kernel,_,rfl,iteF ?_⟩;refine ⟨_,Ja,T,_,Ja,.inr hT,Ja,false,by show V.bl (!decide (V.int 3=V.int 3))=V.bl false; rw [Ya rfl]; rfl,?_⟩;refine iteF ?_;refine ⟨_,Ja,2,Ja,T,_,Ja,hT,fun U H22 s22 hU=>?_⟩;have hU:SqT K H22 U [y1,y2]:=hU;refine ⟨_,Ja,_,Ja,dY,fun Z nZ=>?_⟩;have XT:=Jb nZ (.tup [x1,x2]);have wj:=s22.trans XT;have Jq:=R5.sb wj;have Jo:=R0.sb wj;have ddr:=Lad.m7 (Gr.rk c (cW c) g) (Gr.rk c (cW c) (Gr.stk c n (Gr.fM ru n) pl g).1);refine ⟨_,_,.tup (XT.aL hU) (.cons (YR.sb wj) (.cons (Jp.sb wj) .nil)),.tup (SqT.of Qt) (.cons Jq (.cons Jo .nil)),Lad.l7 (by omega) (by omega),Lad.l7 (by omega) (by omega),_,Ja,?_⟩;rw [Lad.Bn];refine iteF (CN ?_);refine ⟨_,Ja,T,_,_,_,Ja,Ja,wj.aL hT,atI_nat (j:=2) rfl,_,Ja,_,Ja,x1,x2,_,_,Ja,Jq,Jo,by omega,by omega,by omega,by omega,by omega,slt,fun z H24 sY hz=>?_⟩;exact ⟨z,y3,_,true,Ja,hz,VA _ (cI (wj.trans sY) _ _ (Dro.noList _) RY),by omega,fun H25 FW=>q _⟩
end
structure Kt (P:Program) (w:World) (K:Qn) (mg:Str->Option Value) (base:Heap) (x:Str) (a:List Str) (st:Stmt) (f:Addr) (fd:FuncData):Prop where
 F:Fun K x x st f fd
 b:Binds K fd a []
 m:mg x=some (.ref f)
section
variable {P:Program} {w:World} {K:Qn} {mg:Str->Option Value} {base:Heap} {x:Str} {a:List Str} {st:Stmt} {f:Addr} {fd:FuncData} {l:Nat} {sp:Sp}
theorem Kt.g (k:Kt P w K mg base x a st f fd) (h:Fun K x x st f fd->FnOk P w K mg base CX0 l f fd a sp):Got P w K mg base x a l sp:=⟨_,_,h k.F,k.F.kp,k.b,k.m⟩
theorem Kt.y (k:Kt P w K mg base x a st f fd) (h:Fun K x x st f fd->FnOk P w K mg base (L2.CX P w) l f fd a sp):GotX P w K mg base x a l sp:=⟨_,_,h k.F,k.F.kp,k.b,k.m⟩
theorem kt (P:Program) (w:World) (K:Qn) (mg:Str->Option Value) (base:Heap) {h:Heap} (X:K.In h) (G:h.Ns mainGlobals mg) (c:He.SaysD fa fn K) (i j:Nat) {x:Str} {st:Stmt} {a:List Str} (h1:fn[i]?=some ⟨(x,none),x,x,defArgs st,defBody st,defScope st,[],[]⟩) (h2:fa[j]?=some (.glo x)) (h3:∀ (kV doc pm:Value) (an:Option Addr) (uM ct:Value) (us:List Value),us.length=a.length->bindArgs (PySem.W.fnOf x x (defArgs st) (defBody st) (defScope st) .none kV doc pm an uM ct) ⟨us,[]⟩=pure (a.zip us)):∃ f fd,Kt P w K mg base x a st f fd:=by
 obtain ⟨fd,D⟩:=c.def_ i h1;have F:Fun K x x st _ fd:=He5.fun_of D;exact ⟨_,fd,F,F.binds h3,He.glo_ok X G (c.fact j h2)⟩
theorem kt1 (P:Program) (w:World) (K:Qn) (mg:Str->Option Value) (base:Heap) {h:Heap} (X:K.In h) (G:h.Ns mainGlobals mg) (c:He.SaysD fa fn K) (i:Nat) {x:Str} {st:Stmt} (a:List Str) (h1:fn[i]?=some ⟨(x,none),x,x,defArgs st,defBody st,defScope st,[],[]⟩:=by exact rfl) (h2:fa[i]?=some (.glo x):=by exact rfl) (hl:a.length=1:=by exact rfl) (h3:∀ (kV doc pm:Value) (an:Option Addr) (uM ct u0:Value),bindArgs (PySem.W.fnOf x x (defArgs st) (defBody st) (defScope st) .none kV doc pm an uM ct) ⟨[u0],[]⟩=pure (a.zip [u0]):=by exact fun _ _ _ _ _ _ _=>rfl):∃ f fd,Kt P w K mg base x a st f fd :=
 kt P w K mg base X G c i i h1 h2 fun k d p n v t us z=>match us,(show us.length=1 from z.trans hl) with | [u0],_=>h3 k d p n v t u0
theorem kt2 (P:Program) (w:World) (K:Qn) (mg:Str->Option Value) (base:Heap) {h:Heap} (X:K.In h) (G:h.Ns mainGlobals mg) (c:He.SaysD fa fn K) (i:Nat) {x:Str} {st:Stmt} (a:List Str) (h1:fn[i]?=some ⟨(x,none),x,x,defArgs st,defBody st,defScope st,[],[]⟩:=by exact rfl) (h2:fa[i]?=some (.glo x):=by exact rfl) (hl:a.length=2:=by exact rfl) (h3:∀ (kV doc pm:Value) (an:Option Addr) (uM ct u0 u1:Value),bindArgs (PySem.W.fnOf x x (defArgs st) (defBody st) (defScope st) .none kV doc pm an uM ct) ⟨[u0,u1],[]⟩=pure (a.zip [u0,u1]):=by exact fun _ _ _ _ _ _ _ _=>rfl):∃ f fd,Kt P w K mg base x a st f fd :=
 kt P w K mg base X G c i i h1 h2 fun k d p n v t us z=>match us,(show us.length=2 from z.trans hl) with | [u0,u1],_=>h3 k d p n v t u0 u1
theorem kt3 (P:Program) (w:World) (K:Qn) (mg:Str->Option Value) (base:Heap) {h:Heap} (X:K.In h) (G:h.Ns mainGlobals mg) (c:He.SaysD fa fn K) (i:Nat) {x:Str} {st:Stmt} (a:List Str) (h1:fn[i]?=some ⟨(x,none),x,x,defArgs st,defBody st,defScope st,[],[]⟩:=by exact rfl) (h2:fa[i]?=some (.glo x):=by exact rfl) (hl:a.length=3:=by exact rfl) (h3:∀ (kV doc pm:Value) (an:Option Addr) (uM ct u0 u1 u2:Value),bindArgs (PySem.W.fnOf x x (defArgs st) (defBody st) (defScope st) .none kV doc pm an uM ct) ⟨[u0,u1,u2],[]⟩=pure (a.zip [u0,u1,u2]):=by exact fun _ _ _ _ _ _ _ _ _=>rfl):∃ f fd,Kt P w K mg base x a st f fd :=
 kt P w K mg base X G c i i h1 h2 fun k d p n v t us z=>match us,(show us.length=3 from z.trans hl) with | [u0,u1,u2],_=>h3 k d p n v t u0 u1 u2
theorem kt4 (P:Program) (w:World) (K:Qn) (mg:Str->Option Value) (base:Heap) {h:Heap} (X:K.In h) (G:h.Ns mainGlobals mg) (c:He.SaysD fa fn K) (i:Nat) {x:Str} {st:Stmt} (a:List Str) (h1:fn[i]?=some ⟨(x,none),x,x,defArgs st,defBody st,defScope st,[],[]⟩:=by exact rfl) (h2:fa[i]?=some (.glo x):=by exact rfl) (hl:a.length=4:=by exact rfl) (h3:∀ (kV doc pm:Value) (an:Option Addr) (uM ct u0 u1 u2 u3:Value),bindArgs (PySem.W.fnOf x x (defArgs st) (defBody st) (defScope st) .none kV doc pm an uM ct) ⟨[u0,u1,u2,u3],[]⟩=pure (a.zip [u0,u1,u2,u3]):=by exact fun _ _ _ _ _ _ _ _ _ _=>rfl):∃ f fd,Kt P w K mg base x a st f fd :=
 kt P w K mg base X G c i i h1 h2 fun k d p n v t us z=>match us,(show us.length=4 from z.trans hl) with | [u0,u1,u2,u3],_=>h3 k d p n v t u0 u1 u2 u3
theorem kt5 (P:Program) (w:World) (K:Qn) (mg:Str->Option Value) (base:Heap) {h:Heap} (X:K.In h) (G:h.Ns mainGlobals mg) (c:He.SaysD fa fn K) (i:Nat) {x:Str} {st:Stmt} (a:List Str) (h1:fn[i]?=some ⟨(x,none),x,x,defArgs st,defBody st,defScope st,[],[]⟩:=by exact rfl) (h2:fa[i]?=some (.glo x):=by exact rfl) (hl:a.length=5:=by exact rfl) (h3:∀ (kV doc pm:Value) (an:Option Addr) (uM ct u0 u1 u2 u3 u4:Value),bindArgs (PySem.W.fnOf x x (defArgs st) (defBody st) (defScope st) .none kV doc pm an uM ct) ⟨[u0,u1,u2,u3,u4],[]⟩=pure (a.zip [u0,u1,u2,u3,u4]):=by exact fun _ _ _ _ _ _ _ _ _ _ _=>rfl):∃ f fd,Kt P w K mg base x a st f fd :=
 kt P w K mg base X G c i i h1 h2 fun k d p n v t us z=>match us,(show us.length=5 from z.trans hl) with | [u0,u1,u2,u3,u4],_=>h3 k d p n v t u0 u1 u2 u3 u4
end
theorem facts {w:World} {K:Qn} (X:K.In h) (G:h.Ns mainGlobals mg) (hfa:mg ("law":Str)=some (.ref f)) (c:He.SaysD fa fn K) (cx:Bm K=true) :
  ∃ fd:FuncData,(∀ (s:Shared) (v:Value),BindsTo s fd ⟨[v],[]⟩ [(bJ,v)])/\∀ base:Heap,K.In base->base.Ns mainGlobals mg->FnOk P w K mg base CX0 230 f fd [bJ] (spLaw K):=by
 obtain ⟨y5,CH⟩:=c.def_ 80 (d:=U8) rfl;have Ny:Fun K "law" "law" CK _ y5:=He5.fun_of CH;have Jf:=He.glo_ok X G (c.fact 80 (f:=.glo "law") rfl);obtain ⟨Mg,UP⟩:=c.def_ 81 (d:=Mr) rfl;have Nz:Fun K "__init__" "NoKind.__init__" wa _ Mg:=He5.fun_of UP;have Uo:=Nz.binds (ps:=[a8,"kind"]) fun _ _ _ _ _ _ us hl=>match us,hl with | [_,_],_=>rfl
 obtain ⟨Mh,UQ⟩:=c.def_ 82 (d:=Ms) rfl;have NA:Fun K "__init__" "Endless.__init__" wb _ Mh:=He5.fun_of UQ;have Uq:=NA.binds (ps:=[a8,"kind"]) fun _ _ _ _ _ _ us hl=>match us,hl with | [_,_],_=>rfl
 obtain ⟨Mm,UU⟩:=c.def_ 83 (d:=Mx) rfl;have NF:Fun K "__init__" "Book.__init__" rP _ Mm:=He5.fun_of UU;have Uu:=NF.binds (ps:=[a8,"kinds"]) fun _ _ _ _ _ _ us hl=>match us,hl with | [_,_],_=>rfl
 obtain ⟨Ml,UT⟩:=c.def_ 84 (d:=Mw) rfl;have ND:Fun K eF "Book.names" wh _ Ml:=He5.fun_of UT;have Ut:=ND.binds (ps:=[a8]) fun _ _ _ _ _ _ us hl=>match us,hl with | [_],_=>rfl
 obtain ⟨Mi,UR⟩:=c.def_ 85 (d:=Mu) rfl;have NB:Fun K "spreads" "Book.spreads" wc _ Mi:=He5.fun_of UR;have Ur:=NB.binds (ps:=[a8,aO]) fun _ _ _ _ _ _ us hl=>match us,hl with | [_,_],_=>rfl
 obtain ⟨Mj,US⟩:=c.def_ 86 (d:=Mv) rfl;have NC:Fun K "rules" "Book.rules" wg _ Mj:=He5.fun_of US;have Us:=NC.binds (ps:=[a8,aO]) fun _ _ _ _ _ _ us hl=>match us,hl with | [_,_],_=>rfl
 have B:BI mg:=⟨He.free_ok X G (c.fact 81 (f:=.free "len") rfl),He.free_ok X G (c.fact 82 (f:=.free "isinstance") rfl),He.free_ok X G (c.fact 83 (f:=.free "int") rfl),He.free_ok X G (c.fact 84 (f:=.free "bool") rfl),He.free_ok X G (c.fact 85 (f:=.free "str") rfl),He.free_ok X G (c.fact 86 (f:=.free "tuple") rfl),He.free_ok X G (c.fact 87 (f:=.free "list") rfl),He.free_ok X G (c.fact 88 (f:=.free "all") rfl),He.free_ok X G (c.fact 89 (f:=.free "zip") rfl),He.free_ok X G (c.fact 90 (f:=.free "sum") rfl),He.free_ok X G (c.fact 91 (f:=.free "max") rfl),He.free_ok X G (c.fact 92 (f:=.free "range") rfl),He.free_ok X G (c.fact 93 (f:=.free "enumerate") rfl),He.free_ok X G (c.fact 94 (f:=.free "abs") rfl),He.free_ok X G (c.fact 95 (f:=.free "sorted") rfl),He.free_ok X G (c.fact 96 (f:=.free "min") rfl),He.free_ok X G (c.fact 97 (f:=.free "reversed") rfl),He.free_ok X G (c.fact 98 (f:=.free "any") rfl),He.free_ok X G (c.fact 99 (f:=.free "set") rfl),He.free_ok X G (c.fact 100 (f:=.free "dict") rfl),He.free_ok X G (c.fact 101 (f:=.free "repr") rfl)⟩;obtain ⟨vZ,cx⟩:=He.ba cx;obtain ⟨tI,cx⟩:=He.ba cx;obtain ⟨pK,cx⟩:=He.ba cx;have iQ:=zfp pK;have T:ErrsM K mg (He.ga K) eC eN eK:=zf4 cx (fun n hn=>by
   rcases Qv hn with e | hn
   ·rw [e]; exact He.glo_ok X G (c.fact 104 (f:=.glo "NoPlace") rfl)
   rcases Qv hn with e | hn
   ·rw [e]; exact He.glo_ok X G (c.fact 105 (f:=.glo "NoBook") rfl)
   rcases Qv hn with e | hn
   ·rw [e]; exact He.glo_ok X G (c.fact 106 (f:=.glo "NoKind") rfl)
   rcases Qv hn with e | hn
   ·rw [e]; exact He.glo_ok X G (c.fact 107 (f:=.glo "NoRule") rfl)
   rcases Qv hn with e | hn
   ·rw [e]; exact He.glo_ok X G (c.fact 108 (f:=.glo "NoNumber") rfl)
   rcases Qv hn with e | hn
   ·rw [e]; exact He.glo_ok X G (c.fact 109 (f:=.glo "TooGreat") rfl)
   rcases Qv hn with e | hn
   ·rw [e]; exact He.glo_ok X G (c.fact 110 (f:=.glo "Endless") rfl)
   rcases Qv hn with e | hn
   ·rw [e]; exact He.glo_ok X G (c.fact 111 (f:=.glo "NoDrop") rfl)
   exact nomatch hn) (He.glo_ok X G (c.fact 102 (f:=.glo "FellError") rfl)) (He.free_ok X G (c.fact 103 (f:=.free "ValueError") rfl)) (fun n hn=>by
   rcases Qv hn with e | hn
   ·rw [e]; exact He.noat_ok (c.fact 112 (f:=.noat "NoKind" "kind") rfl)
   rcases Qv hn with e | hn
   ·rw [e]; exact He.noat_ok (c.fact 113 (f:=.noat "Endless" "kind") rfl)
   exact nomatch hn)
 have xt:=He.str_ok X G (c.fact 114 (f:=.str "LETTERS" "abcdefghijklmnopqrstuvwxyz") rfl);have nk:=He.int_ok X G (c.fact 115 (f:=.int "LONGEST_NAME" (8)) rfl);have g8:=He.int_ok X G (c.fact 116 (f:=.int "MOST_KINDS" (8)) rfl);have g7:=He.int_ok X G (c.fact 117 (f:=.int "MOST_RULES" (4)) rfl);have dW:=He.int_ok X G (c.fact 118 (f:=.int "MOST_RULE_PARTS" (4)) rfl);have iT:=He.int_ok X G (c.fact 119 (f:=.int "MOST_MANY" (1000000000)) rfl);have cH:=He.int_ok X G (c.fact 120 (f:=.int "MOST_PARTS_STANDING" (2000)) rfl);have cL:=He.int_ok X G (c.fact 121 (f:=.int "MOST_DEEP_STANDING" (60)) rfl);have iR:=He.glo_ok X G (c.fact 122 (f:=.glo "NO_GROVES") rfl);have fJ:Own K mg "NoBook" (He.ga K "NoBook"):=by
  obtain ⟨y1,y2,y3,y4⟩:=He.exc_ok (c.fact 123 (f:=.exc "NoBook") rfl);exact ⟨He.glo_ok X G (c.fact 105 (f:=.glo "NoBook") rfl),y1,y2,y3,y4⟩
 have fI:Own K mg "NoDrop" (He.ga K "NoDrop"):=by
  obtain ⟨y1,y2,y3,y4⟩:=He.exc_ok (c.fact 124 (f:=.exc "NoDrop") rfl);exact ⟨He.glo_ok X G (c.fact 111 (f:=.glo "NoDrop") rfl),y1,y2,y3,y4⟩
 have dB:Own K mg "NoNumber" (He.ga K "NoNumber"):=by
  obtain ⟨y1,y2,y3,y4⟩:=He.exc_ok (c.fact 125 (f:=.exc "NoNumber") rfl);exact ⟨He.glo_ok X G (c.fact 108 (f:=.glo "NoNumber") rfl),y1,y2,y3,y4⟩
 have dI:Own K mg "NoPlace" (He.ga K "NoPlace"):=by
  obtain ⟨y1,y2,y3,y4⟩:=He.exc_ok (c.fact 126 (f:=.exc "NoPlace") rfl);exact ⟨He.glo_ok X G (c.fact 104 (f:=.glo "NoPlace") rfl),y1,y2,y3,y4⟩
 have fH:Own K mg "NoRule" (He.ga K "NoRule"):=by
  obtain ⟨y1,y2,y3,y4⟩:=He.exc_ok (c.fact 127 (f:=.exc "NoRule") rfl);exact ⟨He.glo_ok X G (c.fact 107 (f:=.glo "NoRule") rfl),y1,y2,y3,y4⟩
 have dA:Own K mg "TooGreat" (He.ga K "TooGreat"):=by
  obtain ⟨y1,y2,y3,y4⟩:=He.exc_ok (c.fact 128 (f:=.exc "TooGreat") rfl);exact ⟨He.glo_ok X G (c.fact 109 (f:=.glo "TooGreat") rfl),y1,y2,y3,y4⟩
 have yA:=He.glo_ok X G (c.fact 106 (f:=.glo "NoKind") rfl);have sE:=He.meth_ok (c.fact 129 (f:=.meth "NoKind" "__init__") rfl);have yw:=He.noat_ok (c.fact 112 (f:=.noat "NoKind" "kind") rfl);have wC:=He.glo_ok X G (c.fact 110 (f:=.glo "Endless") rfl);have oS:=He.meth_ok (c.fact 130 (f:=.meth "Endless" "__init__") rfl);have wx:=He.noat_ok (c.fact 113 (f:=.noat "Endless" "kind") rfl);have Dz:=He.glo_ok X G (c.fact 131 (f:=.glo "Book") rfl);have qL:=He.cls_ok (c.fact 132 (f:=.cls "Book") rfl);have cG:ClsF K (He.ga K "Book") ["spread_by_name","rows_by_name"]:=⟨qL,fun f hf=>by
   rcases Qv hf with e | hf
   ·rw [e]; exact He.noat_ok (c.fact 133 (f:=.noat "Book" "spread_by_name") rfl)
   rcases Qv hf with e | hf
   ·rw [e]; exact He.noat_ok (c.fact 134 (f:=.noat "Book" "rows_by_name") rfl)
   exact nomatch hf⟩
 have Tb:=He.mkr_ok (c.fact 135 (f:=.mkr "Book") rfl);have Ta:=He.meth_ok (c.fact 136 (f:=.meth "Book" eF) rfl);have S8:=He.meth_ok (c.fact 137 (f:=.meth "Book" "spreads") rfl);have S9:=He.meth_ok (c.fact 138 (f:=.meth "Book" "rules") rfl);have e:=hfa.symm.trans Jf;cases e;have b:=FunD.bindsA (ps:=[bJ]) CH fun _ _ _ _ _ _ us hl=>match us,hl with | [_],_=>rfl
 refine ⟨y5,fun s v=>b s [v] rfl,fun base _ _=>?_⟩;have k1:=@kt1 P w K mg base _ X G c;have k2:=@kt2 P w K mg base _ X G c;have k3:=@kt3 P w K mg base _ X G c;have k4:=@kt4 P w K mg base _ X G c;have k5:=@kt5 P w K mg base _ X G c;obtain ⟨_,_,uw⟩:=k1 0 [aA];obtain ⟨_,_,wM⟩:=k1 1 [aA];obtain ⟨_,_,wL⟩:=k1 2 [aA];obtain ⟨_,_,si⟩:=k1 3 [cA];obtain ⟨_,_,sh⟩:=k1 4 [eE];obtain ⟨_,_,wJ⟩:=k2 5 [eE,aA];obtain ⟨_,_,yD⟩:=k3 6 ["text",Ag,"signs"];obtain ⟨_,_,oJ⟩:=k1 7 [aA];obtain ⟨_,_,mH⟩:=k1 8 [aA];obtain ⟨_,_,fR⟩:=k1 9 [cA];obtain ⟨_,_,uo⟩:=k2 10 [bp,aI];obtain ⟨_,_,wF⟩:=k3 11 [ah,bN,a9];obtain ⟨_,_,AI⟩:=k2 12 [ah,a9];obtain ⟨_,_,iK⟩:=k1 13 [ah];obtain ⟨_,_,mG⟩:=k1 14 [ah];obtain ⟨_,_,uv⟩:=k1 15 [ah];obtain ⟨_,_,oK⟩:=k1 16 [ah];obtain ⟨_,_,i0⟩:=k2 17 [aq,aO];obtain ⟨_,_,qr⟩:=k2 18 [aq,aO];obtain ⟨_,_,nW⟩:=k2 19 [aq,ah];obtain ⟨_,_,sj⟩:=k1 20 [cA];obtain ⟨_,_,wO⟩:=k1 21 [aA];obtain ⟨_,_,wK⟩:=k1 22 [aA];obtain ⟨_,_,qm⟩:=k2 23 [aZ,eF];obtain ⟨_,_,wG⟩:=k2 24 [ah,bq];obtain ⟨_,_,r8⟩:=k2 25 [ah,bN];obtain ⟨_,_,jX⟩:=k1 26 [ah];obtain ⟨_,_,yF⟩:=k5 27 [aq,ah,bq,aZ,aN];obtain ⟨_,_,wH⟩:=k3 28 [aq,"kind",aZ];obtain ⟨_,_,mK⟩:=k1 29 [aA];obtain ⟨_,_,nX⟩:=k1 30 [ah];obtain ⟨_,_,AM⟩:=k2 31 [aZ,aN];obtain ⟨_,_,mI⟩:=k3 32 [aq,"kind",aN];obtain ⟨_,_,rY⟩:=k5 33 [aq,ah,bq,pE,aN];obtain ⟨_,_,uq⟩:=k2 34 [aq,aO];obtain ⟨_,_,uu⟩:=k4 35 [aO,aZ,"word",ah];obtain ⟨_,_,AK⟩:=k2 36 [aq,aO];obtain ⟨_,_,mJ⟩:=k1 37 [aq];obtain ⟨_,_,sf⟩:=k2 38 ["led",nO];obtain ⟨_,_,lF⟩:=k1 39 [aq];obtain ⟨_,_,qt⟩:=k2 40 [aq,ah];obtain ⟨_,_,yE⟩:=k1 41 [a9];obtain ⟨_,_,wN⟩:=k2 42 [bp,aI];obtain ⟨_,_,nY⟩:=k2 43 [bp,aI];obtain ⟨_,_,yH⟩:=k2 44 [bp,aI];obtain ⟨_,_,DH⟩:=k2 45 [bp,aI];obtain ⟨_,_,mL⟩:=k1 46 ["some"];obtain ⟨_,_,wI⟩:=k2 47 [eV,a9];obtain ⟨_,_,AJ⟩:=k1 48 [eV];obtain ⟨_,_,AO⟩:=k2 49 [bp,aI];obtain ⟨_,_,yC⟩:=k2 50 [bp,aI];obtain ⟨_,_,rZ⟩:=k1 51 [aq];obtain ⟨_,_,AN⟩:=k3 52 [aq,bO,aZ];obtain ⟨_,_,mF⟩:=k3 53 [aq,bO,ah];obtain ⟨_,_,lE⟩:=k3 54 [aq,bO,bN];obtain ⟨_,_,AL⟩:=k4 55 [aq,"kind","own",NH];obtain ⟨_,_,yG⟩:=k2 56 [bp,aI];obtain ⟨_,_,qp⟩:=k5 57 [aq,ah,bq,aZ,aN];obtain ⟨_,_,uA⟩:=k1 58 [bJ];obtain ⟨_,_,sk⟩:=k2 59 [ai,aM];obtain ⟨_,_,lj⟩:=k2 60 [aD,au];obtain ⟨_,_,n4⟩:=k2 61 [aD,au];obtain ⟨_,_,sr⟩:=k2 62 [aD,au];obtain ⟨_,_,qw⟩:=k2 63 [aD,au];obtain ⟨_,_,mP⟩:=k3 64 [ay,br,bV];obtain ⟨_,_,lh⟩:=k3 65 [ay,br,ao];obtain ⟨_,_,lG⟩:=k1 66 [cP];obtain ⟨_,_,lq⟩:=k5 67 [ay,ao,aJ,bF,a6];obtain ⟨_,_,qu⟩:=k2 68 [ai,aM];obtain ⟨_,_,fD⟩:=k4 69 [ai,bx,cO,dQ];obtain ⟨_,_,jY⟩:=k2 70 [ai,tA];obtain ⟨_,_,qv⟩:=k2 71 [ay,lS];obtain ⟨_,_,ji⟩:=k2 72 [ai,ao];obtain ⟨_,_,mQ⟩:=k2 73 [ao,aJ];obtain ⟨_,_,sq⟩:=k1 74 [ai];obtain ⟨_,_,lr⟩:=k2 75 [aD,au];obtain ⟨_,_,gP⟩:=k2 76 [bE,iB];obtain ⟨_,_,mO⟩:=k5 77 [bh,ao,aJ,bF,a6];obtain ⟨_,_,mN⟩:=k5 78 [bh,ay,ao,aJ,aM];obtain ⟨_,_,mR⟩:=k3 79 [bh,ao,lI];have yW:=sh.g (za4 Lad.aj Lad.bc B);have vH:=uw.g (zg2 B);have Lz:Got P w K mg base gB [aA] 2 (NU K []):=wM.g (zhi B vH);have Ly:=si.g (zh5 B);have Lh:=yD.g (zhx B);have Co:=wL.g (zit B xt nk Lh);have AE:∀ n,Got P w K mg base gA [aA] (n+3) (Im K n)/\Got P w K mg base dO [aA] (n+3) (FP K n)/\Got P w K mg base a7 [cA] (n+3) (Ik K true n):=by
  intro n
  induction n with
  | zero=>exact ⟨oJ.g (fun _=>zdc),mH.g (fun _=>zcy),fR.g (fun _=>zd8)⟩
  | succ n ih=>exact ⟨oJ.g (zhf B Co ih.2.1),mH.g (zg4 B Ly ih.2.2),fR.g (zgk B Lz ih.1)⟩
 have LC:Got P w K mg base dO [aA] 84 (FP K 81):=(AE 81).2.1;have Lo:=yE.g zgm;have yX:=wN.g zg9;have Cm:=AJ.g zgi;have II:∀ n,Got P w K mg base bf [ah] (n) (BC K n):=by
  intro n
  induction n with
  | zero=>exact iK.g (fun _=>zd9)
  | succ n ih=>exact iK.g (zgd ih)
 have vG:=II 70;have Lj:=uv.g (zhp B vG);have IK:∀ n,Got P w K mg base gD [ah] (n) (FG K n):=by
  intro n
  induction n with
  | zero=>exact oK.g (fun _=>zcn)
  | succ n ih=>exact oK.g (zhb B ih)
 have LK:=IK 70;have Cg:=wG.y (zhd B dI vH);have vJ:=lG.g (z62 B);have Lr:=wJ.g (zhl B);have yZ:=yH.g (zir B yX Lr);have LW:=nY.g (zi9 B);have Cr:=mL.g (zim B yW);have LR:=DH.g (zif Cr);have LX:=AO.g (zh6 B yX Lo Cm yZ LR);have Lg:=yC.g (zh2 Cm yZ);have Lq:=wI.g (zi2 B);have yW:=sh.g (zhc B);have Ci:=uo.g (zie B yW);have K8:=wF.g (zhw B);have K9:=AI.g (zj2 B);have Cn:=mG.g (zhh B vG);have nj:OwnI P w K mg base "NoKind" (He.ga K "NoKind") 1:=⟨yA,Wr vZ,yw,⟨_,_,sE.at_,beq_iff_eq.mp sE.fn,zjv Nz,Uo⟩⟩;have Ew:GotM P w K mg base (He.ga K "Book") eF [a8] (1) (Il K (He.ga K "Book")):=⟨_,_,zjo B cG ND,Ta,Ut,qL⟩;have yY:=qr.y (zi6 B nj Ew);have L4:z2n P w K mg base (He.ga K "Book") "rules" [a8,aO] (4) (N9 K (He.ga K "Book") (He.ga K "NoKind")):=⟨_,_,zks B cG yY NC,S9,Us,qL⟩;have Cj:=i0.y (zhy B iR iQ L4);have LO:=nW.y (ziv B Cn yY);have Lx:=wK.g (zhn B dW iT LC vG);have LB:=wO.g (zfy B g7 Co Lx);have Lw:=qm.g (zih B vG);have LS:=sj.g (zgs B g8 LB Lw);have Ln:=r8.g (zhm B);have IL:∀ n,Got P w K mg base cj [ah] (n) (Fu K n):=by
  intro n
  induction n with
  | zero=>exact jX.g (fun _=>zcz)
  | succ n ih=>exact jX.g (zi0 B ih)
 have LU:Got P w K mg base cj [ah] (20) (Fu K 20):=IL 20;have Li:=wH.y (zj0 B fH Cj vH);have LN:=mK.y (zgp B dB vH);have LV:z2n P w K mg base (He.ga K "Book") "spreads" [a8,aO] (4) (Oo K (He.ga K "Book") (He.ga K "NoKind")):=⟨_,_,zkg B cG yY NB,S8,Ur,qL⟩;have LG:=mI.g (zgu B LV);have IH:∀ n,Got P w K mg base gV [aq,ah,bq,pE,aN] (n+6) (FL K (He.ga K "Book") n):=by
  intro n
  induction n with
  | zero=>exact rY.g (fun _=>zdq)
  | succ n ih=>exact rY.g (zhq B K8 Ci ih LG Ln)
 have La:Got P w K mg base gV [aq,ah,bq,pE,aN] (64+6) (FL K (He.ga K "Book") 64):=IH 64;have LF:=AM.g (zix B Ci K9);have LQ:=nX.y (zhe B dA cH cL Lj LK);have LH:=yF.y (zij B dI LO Cg Li LN La LF LQ);have Lc:=uu.g (zgy B LU Cg);have Lb:=uq.y (zgg B L4 Lc);have Ls:=AK.y (zgf B Lb);have Lu:=sf.g (zgw B);have Cq:=mJ.g (zh3 B Ew Ls Lu);have LI:=lF.g (zgz B Cq Ew);have kZ:OwnI P w K mg base "Endless" (He.ga K "Endless") 1:=⟨wC,Wr tI,wx,⟨_,_,oS.at_,beq_iff_eq.mp oS.fn,zkd NA,Uq⟩⟩;have LP:=qt.y (zge B kZ LI Cn);have Lv:=AL.g (zga B LV Lg yZ);have Dm:∀ n,Got P w K mg base cU [aq,bO,ah] (2*n+5) (CT K (He.ga K "Book") n):=by
  intro n
  induction n with
  | zero=>exact mF.g (fun _=>zb6)
  | succ n ih =>
   have h1:Got P w K mg base b7 [aq,bO,bN] (2*n+6) (N7 K (He.ga K "Book") n):=lE.g (zh7 B Lv ih);exact mF.g (zgq B Cr Lq h1)
 have Ck:Got P w K mg base cU [aq,bO,ah] 45 (CT K (He.ga K "Book") 20):=Dm 20;have LL:=AN.g (zid B LX Ck);have Ll:=rZ.g (zi4 B Cq Cj LL);have IJ:∀ n,GotX P w K mg base pF [bp,aI] (n+20) (FF K (He.ga K "NoDrop") n):=by
  intro n
  induction n with
  | zero=>exact yG.y (fun _=>zbi)
  | succ n ih=>exact yG.y (zgn B fI yX LW ih)
 have LJ:GotX P w K mg base pF [bp,aI] (40+20) (FF K (He.ga K "NoDrop") 40):=IJ 40;have Cp:=qp.y (zfz B LH LP Ll Ck LJ);have L3:=uA.g (zgt B);have oW:=sk.g (zic B);have IP:∀ n,Got P w K mg base bL [aD,au] (n) (xR K n):=by
  intro n
  induction n with
  | zero=>exact lj.g (fun _=>z72)
  | succ n ih=>exact lj.g (zha B ih)
 have vI:Got P w K mg base bL [aD,au] (40) (xR K 40):=IP 40;have Lm:=n4.g (zj8 B vI);have Lf:=sr.g (zma B vI);have TJ:=qw.g (zjr B Lf vI Lm);have AD:∀ n,Got P w K mg base cw [ay,br,ao] (n+43) (Bw K n)/\Got P w K mg base fY [ay,br,bV] (n+43) (NO K n):=by
  intro n
  induction n with
  | zero=>exact ⟨lh.g (fun _=>zd7),mP.g (fun _=>zcp)⟩
  | succ n ih=>exact ⟨lh.g (zis B ih.2 ih.1 Lm Lf),mP.g (zi3 B TJ ih.1 vI)⟩
 have L1:Got P w K mg base cw [ay,br,ao] 220 (Bw K 177):=(AD 177).1;have IQ:∀ n,Got P w K mg base cQ [ay,ao,aJ,bF,a6] (n+1) (FC K n):=by
  intro n
  induction n with
  | zero=>exact lq.g (fun _=>zd0)
  | succ n ih=>exact lq.g (zgr B vJ ih)
 have L8:Got P w K mg base cQ [ay,ao,aJ,bF,a6] (20+1) (FC K 20):=IQ 20;have L5:=qu.g (zii B oW);have IT:∀ n,Got P w K mg base aW [ai,bx,cO,dQ] (n+1) (BA K n):=by
  intro n
  induction n with
  | zero=>exact fD.g (fun _=>zdp)
  | succ n ih=>exact fD.g (zib B oW ih vJ)
 have Ct:Got P w K mg base aW [ai,bx,cO,dQ] (13+1) (BA K 13):=IT 13;have TH:=jY.g (zje B L5 oW Ct);have L6:=qv.g (zhk B);have Mb:=ji.g (ziu B oW);have L7:=mQ.g (zia B);have LZ:=sq.g (ziz B oW);have IS:∀ n,Got P w K mg base cS [aD,au] (n) (FI K n):=by
  intro n
  induction n with
  | zero=>exact lr.g (fun _=>z6h)
  | succ n ih=>exact lr.g (zg8 B ih)
 have Ma:Got P w K mg base cS [aD,au] (40) (FI K 40):=IS 40;have IM:∀ n,Got P w K mg base a5 [bE,iB] (n) (FJ K n):=by
  intro n
  induction n with
  | zero=>exact gP.g (fun _=>zd5)
  | succ n ih=>exact gP.g (zh9 B ih)
 have LY:Got P w K mg base a5 [bE,iB] (40) (FJ K 40):=IM 40;have Cs:=mO.g (zi1 B T Cp);have L0:=mN.g (zhj B vJ Cs);have L9:=mR.g (ziq B vJ Cs);have TM:GotI P w K mg base "Book" (He.ga K "Book") [a8,"kinds"] (88) (NY K (He.ga K "Book") (He.ga K "NoBook")):=⟨_,_,zlu B fJ cG LS NF,Tb,Uu,Dz⟩;exact zh1 B L3 TH TM L6 oW Ct L9 L0 Mb L7 LZ L1 L8 Cp LY Ma Ny
end FT
open PySem PySem.W PySem.Calls PyProof.Rows
set_option maxRecDepth 100000 in
set_option maxHeartbeats 0 in
theorem PySem.Challenge.cw_felltimber_k52_papers_of_falls_holds : PySem.Challenge.rw_felltimber_k52_papers_of_falls.Holds := by
 w_on; o_law
 refine HandSHeadRun.head_any (r := OpenLaw.row PySem.Challenge.rw_felltimber_k52_papers_of_falls) (q := view (OpenLaw.row PySem.Challenge.rw_felltimber_k52_papers_of_falls).prog [112]) (H := FT.hk) (ob := FT.ob) (M := 9000) (loose := FT.loose) (d := HandSHeadRun.topDef (OpenLaw.row PySem.Challenge.rw_felltimber_k52_papers_of_falls).prog 112) (kwd := []) FT.ob_eq
  (by kernel_rfl) (fun s => by kernel_rfl) FT.run (by kernel_rfl) (by kernel_rfl) (by kernel_rfl) (by rfl) (by first | assumption | decide +kernel) (by decide +kernel) ⟨rfl, rfl, rfl, rfl, rfl, by decide +kernel⟩ ?hw ?hc
 case hw => w_witness2
 case hc =>
  refine L2.walk_ofE (l := PySem.Challenge.rw_felltimber_k52_papers_of_falls) (n := 63) (k := 230) (x := "_law_script") (CX := L2.CX0) rfl (by decide) (by kernel_rfl) ⟨rfl, by decide, by decide⟩ ?F (fun _ _ _ _ z => z);intro w mg fa h Y G hmg0;obtain ⟨K, KX, c, cx⟩ := Y;have hmg : mg ("law" : PySem.Str) = some (.ref fa) := by
   have e : (HandSHeadRun.topDef (OpenLaw.row PySem.Challenge.rw_felltimber_k52_papers_of_falls).prog 112).name = ("law" : PySem.Str) := by kernel_rfl
   rw [<- e];exact hmg0
  obtain ⟨fd, hb, hF⟩ := FT.facts (P := (PySem.Challenge.rw_felltimber_k52_papers_of_falls).prog) (w := w) KX G hmg c cx;exact ⟨K, fd, FT.spLaw K, KX, hb, fun H a ns hl _ hS => ⟨a, ns, rfl, hS, hl, fun _ => rfl⟩, hF⟩
