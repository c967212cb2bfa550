import PyProof.Rows.All
import Wide.All
import OpenK.AllK
import Wide.FinOn
import KE.KStateDown
import KE.SortData
import HandS.ForMost
import HandS.More
import HandS.Walk
import HandS.Zip
import HandS.Style
import HandS.TupAny
import HandS.IsInst
import HandS.Wide
import HandS.Flow
import HandS.WordsExc
import HandS.Defaults
import HandS.Head0
import HandS.Head1
import HandS.Head2
import HandS.HeadEnd
import HandS.HeadHook1
import HandS.HeadHook2
import HandS.HeadNt
import KE.DataCmp
import HandS.SortKw
import PyProof.TupleOfSeq
import HandS.NoneIn
import HandS.ExcIs
import HandS.RevRange
import KE.GoesEnum
import KE.DataAny
import HandS.Conv
import HandS.SortInts
import HandS.FStr
import HandS.Strs
import HandS.TupSets
import HandS.DictComp
import HandS.ExcInit
import HandS.SetKeys
import HandS.SetTxt0
import HandS.SetBool
import HandS.SetFor
import KE.GoesEnumKw
import PyProof.Rows.CallKwBuiltin
import KE.DatumOrd
import HandS.ExcField
import HandS.HotCalls
import HandS.Replace
import HandS.TupLe
import KE.DataMinMax
import PyProof.StrBlock2
import HandS.WordsDict
import HandS.TupMul
import HandS.TryOnly
import PyProof.MaxThree
import PyProof.NeKinds
import HandS.Deep
import HandS.Dict
import KE.GoesMore
import PyProof.EqKinds
import PySem.Challenge.RW_felltimber_k55_reaching_too_far
set_option Elab.async false
set_option linter.all false
set_option maxRecDepth 100000
set_option maxHeartbeats 4000000
namespace FT
open PySem PySem.W PySem.Spec PyProof.Rows L2
abbrev aa:Str:="_law_pot_here"
abbrev ah:Str:="book"
abbrev ai:Str:="_law_ladder_here"
abbrev ao:Str:="grove"
abbrev aw:Str:="_law_book"
abbrev ax:Str:="_law_other"
abbrev aB:Str:="_law_grove"
abbrev aD:Str:="thing"
abbrev aF:Str:="other"
abbrev aI:Str:="_law_one"
abbrev aN:Str:="name"
abbrev aQ:Str:="_law_many"
abbrev aR:Str:="ladder"
abbrev aW:Str:="_law_drawn_grove"
abbrev aX:Str:="_law_parts"
abbrev aY:Str:="_law_goal_here"
abbrev a8:Str:="are_grove_pairs"
abbrev a9:Str:="_law_names_here"
abbrev bc:Str:="_law_known"
abbrev bf:Str:="self"
abbrev bq:Str:="one"
abbrev bt:Str:="worths"
abbrev bu:Str:="rules_from_nought"
abbrev bx:Str:="pairs_within"
abbrev bA:Str:="fall_in_grove"
abbrev bD:Str:="_law_less"
abbrev bH:Str:="_law_script"
abbrev bJ:Str:="reckoned_tree"
abbrev bK:Str:="_law_take"
abbrev bL:Str:="_law_grove_of"
abbrev bN:Str:="rest_or_nought"
abbrev bO:Str:="many"
abbrev bP:Str:="goal"
abbrev bS:Str:="_law_sizes"
abbrev bT:Str:="_law_lesser"
abbrev bU:Str:="_law_ladder"
abbrev bX:Str:="all_together"
abbrev bY:Str:="_law_rank"
abbrev cb:Str:="_law_drawn_book"
abbrev cf:Str:="reckoned"
abbrev cA:Str:="all_places"
abbrev cG:Str:="_law_behind"
abbrev cJ:Str:="further_needed"
abbrev cN:Str:="tree"
abbrev cO:Str:="things"
abbrev cP:Str:="rule"
abbrev cQ:Str:="kinds_within"
abbrev cS:Str:="fall_in_tree"
abbrev cT:Str:="ending_kinds"
abbrev cX:Str:="is_less"
abbrev cY:Str:="endless_kinds"
abbrev c6:Str:="check_kind"
abbrev df:Str:="_law_name"
abbrev dg:Str:="_law_fall"
abbrev dj:Str:="_law_both"
abbrev dq:Str:="check_kinds"
abbrev dr:Str:="_law_number"
abbrev dE:Str:="fall_of_bare"
abbrev dF:Str:="_law_refusal"
abbrev dG:Str:="_law_reaches"
abbrev dV:Str:="is_grove"
abbrev dW:Str:="check_ends"
abbrev dX:Str:="_law_pairs"
abbrev dY:Str:="_law_great"
abbrev eB:Str:="goal_of_one"
abbrev eE:Str:="alike_ahead"
abbrev eG:Str:="owns"
abbrev eS:Str:="names"
abbrev eZ:Str:="own_ranks"
abbrev e7:Str:="is_rising"
abbrev fb:Str:="_law_rule"
abbrev fj:Str:="is_rule_of"
abbrev fm:Str:="_law_place"
abbrev fq:Str:="_law_names"
abbrev ft:Str:="_law_kinds"
abbrev fu:Str:="_law_above"
abbrev fT:Str:="is_whole"
abbrev fU:Str:="_law_own"
abbrev fY:Str:="lead_into"
abbrev fZ:Str:="is_tree"
abbrev gq:Str:="is_many"
abbrev gu:Str:="are_kinds"
abbrev gy:Str:="_law_tail"
abbrev gK:Str:="pairs"
abbrev gL:Str:="behind"
abbrev ia:Str:="steps_of"
abbrev ie:Str:="steps_in"
abbrev ig:Str:="many_of"
abbrev ij:Str:="many_at"
abbrev ik:Str:="is_name"
abbrev iq:Str:="fall_to"
abbrev ir:Str:="_law_pot"
abbrev jc:Str:="number"
abbrev jT:Str:="place"
abbrev kI:Str:="tree_at"
abbrev kJ:Str:="lowered"
abbrev kK:Str:="is_rule"
abbrev kL:Str:="is_kind"
abbrev mC:Str:="_law_made"
abbrev mQ:Str:="_law_turned"
abbrev oQ:Str:="spread"
abbrev oR:Str:="run_of"
abbrev oS:Str:="joined"
abbrev oT:Str:="ending"
abbrev qg:Str:="power"
abbrev qh:Str:="climb"
abbrev uw:Str:="_law_told"
abbrev uA:Str:="_law_most"
abbrev vS:Str:="leads"
abbrev vT:Str:="laden"
abbrev vU:Str:="above"
abbrev wQ:Str:="at"
abbrev EF:Str:="rest"
abbrev EG:Str:="rank"
abbrev EH:Str:="both"
abbrev PH:Str:="whole"
abbrev R6:Str:="some"
theorem Z0:0<=sizeLine:=by decide
theorem Z1:1<=sizeLine:=by decide
theorem dU:2<=sizeLine:=by decide
theorem Z3:3<=sizeLine:=by decide
theorem mi {α:Type} {l:List α} {a:α} (n:Nat) (h:l[n]?=some a:=by exact rfl):a ∈ l:=List.mem_of_getElem? h
theorem Hm {a b:Nat} {A:PySem.Around} (h:Room a A) (l:b<=a:=by omega):Room b A:=h.mono l
universe u
abbrev Ka:=@pe_tup
abbrev Ke:=@wpAny_bind
abbrev Kf:=@ps_expr
abbrev Ki:=@PySem.F.plainAttrs_list
abbrev Kk:=@pw_or
abbrev Kl:=@pw_and
abbrev Kn:=@pe_bm
abbrev Ko:=@op_add
theorem Kp {α:Type} {l:List α} {i:Nat} (h:i<l.length):l[i]?=some l[i]:=List.getElem?_eq_getElem h
theorem Kq {α:Type} {l:List α} {i:Nat} {a:α} (h:l[i]?=some a):∃ h:i<l.length,l[i]=a:=List.getElem?_eq_some_iff.mp h
theorem Kr {α β:Type} {f:α->β} {o:Option α} {b:β} (h:o.map f=some b):∃ a,o=some a/\f a=b:=Option.map_eq_some_iff.mp h
theorem Ks {p:Prop} [Decidable p] (h:decide p=true):p:=of_decide_eq_true h
theorem Ku {α β:Type} {f:α->β} {b:β} {l:List α} (h:∃ a,a ∈ l/\f a=b):b ∈ l.map f:=List.mem_map.mpr h
theorem Kv {α:Type} {a b:α} (h:a=b):a ∈ [b]:=List.mem_singleton.mpr h
theorem Kw (a:Int):a<=a:=Int.le_refl a
theorem Kx {α:Type} {i:Nat} {l:List α}:(l.take i).length=min i l.length:=List.length_take ..
theorem Ky {α β:Type} {f:α->β} {a:α} {l:List α}:(a::l).map f=f a::l.map f:=List.map_cons ..
theorem Kz {α:Type} (l:List α):l++[]=l:=List.append_nil l
theorem Ja {α:Sort u} {a:α}:a=a:=rfl
abbrev Qa:=@pa_cons
abbrev Qb:=@pa_nil
abbrev Qc:=@pss_cons
abbrev Qe:=@pss_one
abbrev Qg:=@pe_int
abbrev Qi:=@pgs_cons
abbrev Qj:=@ps_ret
abbrev Ql:=@ix_tup
abbrev Qm:=@pe_ix
abbrev Qn:=@PySem.W.Frag
abbrev Qo:=@pt_val
abbrev Qp:=@pt_not
abbrev Qr:=@ps_if
abbrev Qs:=@pe_callB
theorem Qt {H:Hp} {a:Addr} {o:HO}:upd H a o a=some o:=upd_same
theorem Qu {α:Type} {l:List α} {n:Nat} {a:α} (h:l[n]?=some a):a ∈ l:=List.mem_of_getElem? h
theorem Qv {α:Type} {a b:α} {l:List α} (h:a ∈ b::l):a=b\/a ∈ l:=List.mem_cons.mp h
theorem Qw {α:Type} {a:α} {l k:List α} (h:a ∈ l++k):a ∈ l\/a ∈ k:=List.mem_append.mp h
theorem Qx {α β:Type} {f:α->β} {b:β} {l:List α} (h:b ∈ l.map f):∃ a,a ∈ l/\f a=b:=List.mem_map.mp h
theorem Qy {α:Type} {a b:α} (h:a ∈ [b]):a=b:=List.mem_singleton.mp h
theorem Qz {p:Prop} [Decidable p] (h:¬p):decide p=false:=decide_eq_false h
theorem Ya {p:Prop} [Decidable p] (h:p):decide p=true:=decide_eq_true h
theorem Yb {a b c:Nat} (h:a<=b) (k:b<=c):a<=c:=Nat.le_trans h k
theorem Yc (a:Nat):a<=a:=Nat.le_refl a
theorem Yd {α:Type} {a b:α} (h:some a=some b):a=b:=Option.some.inj h
theorem Ye {α β:Type} {f:α->β} {l:List α}:(l.map f).length=l.length:=List.length_map ..
theorem Yf {α:Type} {l k:List α}:(l++k).length=l.length+k.length:=List.length_append ..
theorem Yg {α:Type} {l:List α} {i:Nat}:l.take (i+1)=l.take i++l[i]?.toList:=List.take_add_one ..
theorem Yh {α:Type} {l:List α}:l.take l.length=l:=List.take_length ..
theorem Yi {α:Type} {a:α}:[a].length=1:=List.length_singleton ..
theorem Yj {α β:Type} {f:α->β} {l k:List α}:(l++k).map f=l.map f++k.map f:=List.map_append ..
theorem Yk {α:Type} {a:α} {l:List α}:(a::l).length=l.length+1:=List.length_cons ..
variable {n k i kk:Nat} {H:Hp} {ns cq kinds ks:List Str} {a p d c f q t i1 i2:Addr} {K:Qn} {m B C D:Int} {v x:V} {xs:List V} {P:Program} {mg:Str->Option Value} {z:Str} {elts:List Expr} {wY:Pos} {e:Expr} {base h:Heap} {Q:VK} {s:Shared} {bad:List Addr}
theorem bC {A:Around} {e:Env} (hr:Room k (A.deeper e)):A.units+3+200 < cLine:=by
 have:=hr.un;have h3:(A.deeper e).units=A.units+3:=rfl;omega
theorem u1 {A:Around} {e:Env} (h:Room k (A.deeper e)):A.units+3+1<cLine:=by have:=bC h; omega
theorem mb {A:Around} {e:Env} (h:Room k (A.deeper e)):A.units+3+64<cLine:=by have:=bC h; omega
theorem aL {α:Type} {a:α}:¬ a ∈ ([]:List α):=List.not_mem_nil
theorem bw {α:Type} {a:α} {l:List α}:a ∈ a::l:=List.mem_cons_self
theorem bI {α:Type} (y:α) {a:α} {l:List α} (h:a ∈ l):a ∈ y::l:=List.mem_cons_of_mem y h
theorem gR {α:Type} {a:α} {l:List α} (k:List α) (h:a ∈ l):a ∈ l++k:=List.mem_append_left k h
theorem jr {α:Type} {a:α} {l:List α} (k:List α) (h:a ∈ l):a ∈ k++l:=List.mem_append_right k h
theorem wU (h:n<=10000000):n < sizeLine:=Nat.lt_of_le_of_lt h (by decide)
structure SB (ps:List Addr) (H H':Hp):Prop where
 keep:∀ b o,H b=some o->b ∉ ps->H' b=some o
 tups:∀ b xs,H b=some (.tup xs)->H' b=some (.tup xs)
 frzs:∀ b o u,H b=some (.frz o u)->H' b=some (.frz o u)
 kS:∀ b,H' b=none->H b=none
section
variable {K:Qn} {ps qs:List Addr} {H H' H1 H2:Hp} {a p:Addr} {xs:List V}
theorem SB.refl:SB ps H H:=⟨fun _ _ h _=>h,fun _ _ h=>h,fun _ _ _ h=>h,fun _ h=>h⟩
theorem SB.trans (a:SB ps H H1) (b:SB ps H1 H2):SB ps H H2 :=
 ⟨fun c o h n=>b.keep c o (a.keep c o h n) n,fun c x h=>b.tups c x (a.tups c x h),fun c o u h=>b.frzs c o u (a.frzs c o u h),fun c h=>a.kS c (b.kS c h)⟩
theorem SB.mono (h:SB ps H H') (hs:∀ b ∈ ps,b ∈ qs):SB qs H H':=⟨fun c o e n=>h.keep c o e fun z=>n (hs c z),h.tups,h.frzs,h.kS⟩
theorem SB.nil (h:SB [] H H'):SB ps H H':=h.mono fun _ z=>absurd z (aL)
theorem SB.new (h:H p=none) (o:HO):SB ps H (upd H p o):=by
 refine ⟨fun b u e _=>?_,fun b u e=>?_,fun b v u e=>?_,fun b e=>?_⟩
 ·rw [upd_ne (ne_of_none e h)]; exact e
 ·rw [upd_ne (ne_of_none e h)]; exact e
 ·rw [upd_ne (ne_of_none e h)]; exact e
 ·by_cases q:b=p
  ·subst q; exact h
  ·rw [upd_ne q] at e; exact e
theorem Jb {H:Hp} {p:Addr} (h:H p=none) (o:HO):SB [] H (upd H p o):=SB.new h o
theorem dZ {ps:List Addr} {H:Hp} {a:Addr} {o:HO} (_:SB ps H (upd H a o)):upd H a o a=some o:=upd_same
theorem gA {K:PySem.W.Frag} {ps:List Addr} {H:Hp} {a:Addr} {l:List V} (_:SB ps H (upd H a (.tup l))):SqT K (upd H a (.tup l)) a l:=SqT.of upd_same
theorem SB.set (h:H p=some (.lst xs)) (hp:p ∈ ps) (o:HO):SB ps H (upd H p o):=by
 refine ⟨fun b u e n=>?_,fun b u e=>?_,fun b v u e=>?_,fun b e=>?_⟩
 ·rw [upd_ne (fun (z:b=p)=>n (by rw [z]; exact hp))]; exact e
 ·rw [upd_ne (fun (z:b=p)=>by subst z; rw [h] at e; cases e)]; exact e
 ·rw [upd_ne (fun (z:b=p)=>by subst z; rw [h] at e; cases e)]; exact e
 ·by_cases q:b=p
  ·subst q; rw [Qt] at e; cases e
  ·rw [upd_ne q] at e; exact e
theorem SB.drop (h:SB (p::ps) H H') (n:H p=none):SB ps H H':=by
 refine ⟨fun b o e m=>h.keep b o e fun z=>?_,h.tups,h.frzs,h.kS⟩;rcases Qv z with z | z
 ·subst z; rw [n] at e; cases e
 ·exact m z
theorem SB.aH (e:SB ps H H') (h:SqT K H a xs):SqT K H' a xs:=by
 rcases h with (h | ⟨o,h⟩) | h
 ·exact .inl (.inl (e.tups _ _ h))
 ·exact .inl (.inr ⟨o,e.frzs _ _ _ h⟩)
 ·exact .inr h
theorem SB.fG (e:SB ps H H') (n:a ∉ ps) (h:SqL K H a xs):SqL K H' a xs:=by
 rcases h with (h | ⟨o,h⟩) | h
 ·exact .inl (.inl (e.keep _ _ h n))
 ·exact .inl (.inr ⟨o,e.frzs _ _ _ h⟩)
 ·exact .inr h
end
inductive Lad where
 | nil
 | cons (e:Lad) (m:Int) (r:Lad)
 deriving DecidableEq
namespace Lad
def encs:Lad->List PyData
 | .nil=>[]
 | .cons e m r=>.tuple [.tuple e.encs,.int m]::r.encs
def enc (l:Lad):PyData:=.tuple l.encs
def parts:Lad->Nat
 | .nil=>0
 | .cons e _ r=>1+e.parts+r.parts
def deep:Lad->Nat
 | .nil=>0
 | .cons e _ r=>max (1+e.deep) r.deep
def len:Lad->Nat
 | .nil=>0
 | .cons _ _ r=>1+r.len
theorem l6:∀ l:Lad,l.encs.length=l.len
 | .nil=>rfl
 | .cons e m r=>by show r.encs.length+1=1+r.len; rw [l6 r,Nat.add_comm]
theorem aM:∀ l:Lad,l.len<=l.parts
 | .nil=>Yc _
 | .cons e m r=>by have:=aM r; show 1+r.len<=1+e.parts+r.parts; omega
theorem jJ:∀ l k:Lad,alikeAll l.encs k.encs=true
 | .nil,_=>by simp [encs,alikeAll]
 | .cons e m r,.nil=>by simp [encs,alikeAll]
 | .cons e m r,.cons e' m' r'=>by
  have h1:=jJ e e';have h2:=jJ r r';simp [encs,alikeAll,alike,h1,h2]
theorem dQ (l k:Lad):alike l.enc k.enc=true:=by
 show alike (.tuple l.encs) (.tuple k.encs)=true;rw [alike]; exact jJ l k
theorem cC:∀ l:Lad,PyData.depthAll l.encs<=2*l.deep
 | .nil=>by simp [encs,PyData.depthAll,deep]
 | .cons e m r=>by
  have h1:=cC e;have h2:=cC r;simp only [encs,PyData.depthAll,PyData.depth,deep];omega
theorem eO (l:Lad):l.enc.depth<=2*l.deep+1:=by
 have:=cC l;simp only [enc,PyData.depth];omega
theorem Ac (l:Lad):l.enc ≠ .none:=fun h=>nomatch h
end Lad
def LN (K:Qn):R2:=fun x y H Q=>∃ d e,Dp K H x d/\Dp K H y e/\alike d e=true/\d ≠ .none/\d.depth<=100/\Q (.bl (dataLt d e)) H
section
variable {X:Cx}
theorem YJ (hu:X.A.units+100 < cLine):OpR X (compareOp .Lt) (LN X.K):=by
 intro pins s σ H x y v u Q I rx ry h;obtain ⟨d,e,hd,he,al,hn,hdp,q⟩:=h;obtain ⟨as,r1⟩:=Dp.reads I d x v hd rx;obtain ⟨bs,r2⟩:=Dp.reads I e y u he ry;exact rcLt_alike d e X.A s v u as bs r1 r2 al hn (by have:=Nat.min_le_left d.depth e.depth; omega) X.prog X.w X.xe _ ⟨.bl _,H,I,rfl,q⟩
end
mutual
def gJ:PyData->Bool
 | .list _=>false
 | .dict _=>false
 | .tuple ds=>kT ds
 | _=>true
def kT:List PyData->Bool
 | []=>true
 | d::ds=>gJ d&&kT ds
end
section
variable {K:Qn} {ps:List Addr} {H H':Hp}
mutual
theorem fc (e:SB ps H H'):∀ (d:PyData) (v:V),gJ d=true->Dp K H v d->Dp K H' v d
 | .none,_,_,h=>by cases h; exact .non
 | .bool b,_,_,h=>by cases h; exact .bl b
 | .int i,_,_,h=>by cases h; exact .int i
 | .str x,_,_,h=>by cases h; exact .str x
 | .list ds,_,n,_=>by simp [gJ] at n
 | .dict ds,_,n,_=>by simp [gJ] at n
 | .tuple ds,_,n,h=>by
  cases h with
  | tup hs ha=>exact .tup (e.aH hs) (S0 e ds _ (by simpa [gJ] using n) ha)
theorem S0 (e:SB ps H H'):∀ (ds:List PyData) (vs:List V),kT ds=true->DpAll K H vs ds->DpAll K H' vs ds
 | [],_,_,h=>by cases h; exact .nil
 | d::ds,_,n,h=>by
  cases h with
  | cons h1 h2 =>
   simp [kT] at n;exact .cons (fc e d _ n.1 h1) (S0 e ds _ n.2 h2)
end
end
theorem Lad.cB:∀ l:Lad,kT l.encs=true
 | .nil=>by simp [Lad.encs,kT]
 | .cons e m r=>by simp [Lad.encs,kT,gJ,Lad.cB e,Lad.cB r]
theorem Lad.af (l:Lad):gJ l.enc=true:=by simp [Lad.enc,gJ,Lad.cB l]
def LA (K:Qn) (H:Hp) (v:V) (l:Lad):Prop:=Dp K H v l.enc
section
variable {K:Qn} {ps:List Addr} {H H':Hp} {v:V} {l:Lad}
theorem LA.sb (h:LA K H v l) (e:SB ps H H'):LA K H' v l:=fc e _ _ l.af h
theorem LA.tup (h:LA K H v l):∃ a xs,v=.ref a/\SqT K H a xs/\DpAll K H xs l.encs:=by
 have h':Dp K H v (.tuple l.encs):=h;cases h' with
 | tup hs ha=>exact ⟨_,_,Ja,hs,ha⟩
theorem DpAll.length:∀ {vs:List V} {ds:List PyData},DpAll K H vs ds->vs.length=ds.length
 | _,_,.nil=>rfl
 | _,_,.cons _ t=>by rw [Yk,Yk,DpAll.length t]
theorem DpAll.get:∀ {vs:List V} {ds:List PyData} {i:Nat} {v:V},DpAll K H vs ds->vs[i]?=some v->∃ d,ds[i]?=some d/\Dp K H v d
 | _,_,_,_,.nil,e=>by simp at e
 | _,_,0,_,.cons h t,e=>by simp at e; subst e; exact ⟨_,Ja,h⟩
 | _,_,i+1,v,.cons h t,e=>by
  obtain ⟨d,h1,h2⟩:=DpAll.get (i:=i) (v:=v) t (by simpa using e);exact ⟨d,by simpa using h1,h2⟩
end
structure BI (mg:Str->Option Value):Prop where
 len:mg "len"=none
 isinstance:mg "isinstance"=none
 int:mg "int"=none
 bool:mg "bool"=none
 str:mg "str"=none
 tuple:mg "tuple"=none
 list:mg "list"=none
 all:mg "all"=none
 zip:mg "zip"=none
 sum:mg "sum"=none
 max:mg "max"=none
 range:mg "range"=none
 enumerate:mg "enumerate"=none
 abs:mg "abs"=none
 sorted:mg "sorted"=none
 min:mg "min"=none
 reversed:mg "reversed"=none
 any:mg "any"=none
 set:mg "set"=none
 dict:mg "dict"=none
 repr:mg "repr"=none
structure Got (P:Program) (w:World) (K:Qn) (mg:Str->Option Value) (base:Heap) (x:Str) (ps:List Str) (k:Nat) (sp:Sp):Prop where
 ex:∃ (f:Addr) (fd:FuncData),FnOk P w K mg base CX0 k f fd ps sp/\PySem.W.keepIn K (.ref f)=true/\Binds K fd ps []/\mg x=some (.ref f)
section
variable {X:Cx} {x:Str} {ps:List Str} {k:Nat} {sp:Sp} {e:Expr} {es:List Expr} {t:TA} {p pos:Pos}
theorem aS (G:Got X.prog X.w X.K X.mg X.base x ps k sp) (hr:Room k X.A) (hg:Gl X x) (ha:PA X (e::es) t) (zQ:(x == ("__debug__":Str))=false:=by decide) (he:starEach (e::es) X.env=(false,eval e X.env)::starEach es X.env:=by rfl) (ff:(backTo pos (starEach es X.env)).any (·.1)=false:=by rfl) :
  PE X (.Call (.Name x p) (e::es) [] pos) (tCall sp [] E0 t):=by
 obtain ⟨f,fd,h1,h2,h3,h4⟩:=G.ex;exact pe_call h1 hr hg h4 h2 h3 .nil pass0 ha zQ he ff
end
def XX (K:Qn):List V->Hp->VK->Prop:=fun xs H Q=>∃ (x:V) (T n:String) (b:Bool),xs=[x,.ty T]/\TyX K H x (.type n)/\kitB n T=some b/\Q (.bl b) H
section
variable {X:Cx}
theorem zbo:CallR X (.builtin "isinstance") (XX X.K):=by
 intro pins s σ H xs us Q I r h;obtain ⟨x,T,n,b,rfl,ty,e,q⟩:=h;exact call_isi pins s σ H _ us Q I r ⟨x,.ty T,.type n,.type T,b,Ja,.ty T,ty,kit_ty e,q⟩
theorem X9 {T:Str} {T':String} {pos:Pos} (hg:Gl X T) (hm:X.mg T=none) (hv:bootBuiltins T=some (.type T')) (hn:T ≠ "__name__":=by decide) (hd:(T == ("__debug__":Str))=false:=by decide):PE X (.Name T pos) (tC (.ty T')):=pe_bltn hg hm hv rfl hn hd
theorem uC {te:TE} {T:Str} {T':String} {p p2 pos:Pos} (B:BI X.mg) (he:PE X e te) (hm:X.mg T=none) (hv:bootBuiltins T=some (.type T')) (hg:Gl X "isinstance":=by rfl) (Gm:Gl X T:=by rfl) (hn:T ≠ "__name__":=by decide) (hd:(T == ("__debug__":Str))=false:=by decide)
  (hs:starEach [e,.Name T p2] X.env=(false,eval e X.env)::starEach [.Name T p2] X.env:=by rfl) (ff:(backTo pos (starEach [.Name T p2] X.env)).any (·.1)=false:=by rfl) :
  PE X (.Call (.Name "isinstance" p) [e,.Name T p2] [] pos) (tCB (XX X.K) (tCons te (tCons (tC (.ty T')) tNil))) :=
 Qs zbo hg B.isinstance boot_isinstance (Qa he (Qa (X9 Gm hm hv hn hd) Qb) hs) (by decide) (by decide) hs ff
end
mutual
inductive Th (K:Qn) (ps:List Addr) (H:Hp):V->PyData->Prop
 | int (i:Int):Th K ps H (.int i) (.int i)
 | tup {a:Addr} {xs:List V} {ds:List PyData}:SqT K H a xs->z6i K ps H xs ds->Th K ps H (.ref a) (.tuple ds)
 | oth {v:V} {n:String}:TyX K H v (.type n)->kitB n "tuple"=some false->(kitB n "int"=some false\/n="bool")->(∀ a,v=.ref a->a ∉ ps)->Th K ps H v .none
inductive z6i (K:Qn) (ps:List Addr) (H:Hp):List V->List PyData->Prop
 | nil:z6i K ps H [] []
 | cons {v:V} {vs:List V} {d:PyData} {ds:List PyData}:Th K ps H v d->z6i K ps H vs ds->z6i K ps H (v::vs) (d::ds)
end
def rQ:PyData->Bool
 | .int i=>decide (1<=i)
 | _=>false
section
variable {K:Qn} {ps:List Addr} {H H':Hp}
theorem Iv (h:SqT K H a xs):TyX K H (.ref a) (.type "tuple"):=by
 rcases h with (h | ⟨o,h⟩) | ⟨o,bV,n,h,c,_⟩
 ·exact .base (.tup h)
 ·exact .fTuple h
 ·exact .kTuple h c
theorem Th.whole {d:PyData} (h:Th K ps H v d):∃ n b1 b2,TyX K H v (.type n)/\kitB n "int"=some b1/\(b1=true->kitB n "bool"=some b2)/\((b1&&!b2)=true->∃ i,v=.int i/\d=.int i)/\((b1&&!b2)=false->rQ d=false):=by
 cases h with
 | int i=>exact ⟨"int",true,false,.base (.int i),by decide +kernel,fun _=>by decide +kernel,fun _=>⟨i,rfl,rfl⟩,fun z=>(nomatch z)⟩
 | tup hs ha=>exact ⟨"tuple",false,false,(Iv hs),by decide +kernel,fun z=>(nomatch z),fun z=>(nomatch z),fun _=>rfl⟩
 | @oth v n ty k1 k2 _ =>
  rcases k2 with k2 | k2
  ·exact ⟨n,false,false,ty,k2,fun z=>(nomatch z),fun z=>(nomatch z),fun _=>rfl⟩
  ·subst k2;exact ⟨"bool",true,true,ty,by decide +kernel,fun _=>by decide +kernel,fun z=>(nomatch z),fun _=>rfl⟩
theorem Ir {n:String} (e:SB ps H H') (hn:∀ a,v=.ref a->a ∉ ps) (h:TyX K H v (.type n)):TyX K H' v (.type n):=by
 cases h with
 | base h =>
  cases h with
  | non=>exact .base .non
  | bl x=>exact .base (.bl x)
  | int i=>exact .base (.int i)
  | str x=>exact .base (.str x)
  | flt x=>exact .base (.flt x)
  | lst h=>exact .base (.lst (e.keep _ _ h (hn _ rfl)))
  | frz h=>exact .base (.frz (e.frzs _ _ _ h))
  | tup h=>exact .base (.tup (e.tups _ _ h))
  | dK h=>exact .base (.dK (e.keep _ _ h (hn _ rfl)))
  | dT h=>exact .base (.dT (e.keep _ _ h (hn _ rfl)))
 | byt b=>exact .byt b
 | set h=>exact .set (e.keep _ _ h (hn _ rfl))
 | kList h c=>exact .kList h c
 | kTuple h c=>exact .kTuple h c
 | kDict h c=>exact .kDict h c
 | fTuple h=>exact .fTuple (e.frzs _ _ _ h)
 | fDict h=>exact .fDict (e.frzs _ _ _ h)
end
inductive Bears (K:Qn) (H:Hp) {β:Type} (enc:β->PyData):List V->List β->Prop
 | nil:Bears K H enc [] []
 | cons {v:V} {vs:List V} {b:β} {bs:List β}:Dp K H v (enc b)->Bears K H enc vs bs->Bears K H enc (v::vs) (b::bs)
section
variable {K:Qn} {H H':Hp} {β:Type} {enc:β->PyData} {ps:List Addr}
theorem Bears.length:∀ {vs:List V} {bs:List β},Bears K H enc vs bs->vs.length=bs.length
 | _,_,.nil=>rfl
 | _,_,.cons _ t=>by rw [Yk,Yk,Bears.length t]
theorem Bears.dp:∀ {vs:List V} {bs:List β},Bears K H enc vs bs->DpAll K H vs (bs.map enc)
 | _,_,.nil=>.nil
 | _,_,.cons h t=>.cons h (Bears.dp t)
theorem Bears.of:∀ {vs:List V} {bs:List β},DpAll K H vs (bs.map enc)->Bears K H enc vs bs
 | [],[],_=>.nil
 | _::_,[],h=>by cases h
 | [],_::_,h=>by cases h
 | v::vs,b::bs,h=>by
  cases h with
  | cons h1 h2=>exact .cons h1 (Bears.of h2)
theorem Bears.get:∀ {vs:List V} {bs:List β} {i:Nat} {v:V},Bears K H enc vs bs->vs[i]?=some v->∃ b,bs[i]?=some b/\Dp K H v (enc b)
 | _,_,_,_,.nil,e=>by simp at e
 | _,_,0,_,.cons h t,e=>by simp at e; subst e; exact ⟨_,Ja,h⟩
 | _,_,i+1,v,.cons h t,e=>by
  obtain ⟨d,h1,h2⟩:=Bears.get (i:=i) (v:=v) t (by simpa using e);exact ⟨d,by simpa using h1,h2⟩
theorem Bears.append:∀ {xs ys:List V} {bs cs:List β},Bears K H enc xs bs->Bears K H enc ys cs->Bears K H enc (xs++ys) (bs++cs)
 | _,_,_,_,.nil,h=>h
 | _,_,_,_,.cons a b,h=>.cons a (Bears.append b h)
theorem Bears.sb (e:SB ps H H') (hn:∀ b,gJ (enc b)=true):∀ {xs:List V} {bs:List β},Bears K H enc xs bs->Bears K H' enc xs bs
 | _,_,.nil=>.nil
 | _,_,.cons a b=>.cons (fc e _ _ (hn _) a) (Bears.sb e hn b)
theorem Bears.take (n:Nat):∀ {xs:List V} {bs:List β},Bears K H enc xs bs->Bears K H enc (xs.take n) (bs.take n):=by
 induction n with
 | zero=>intro xs bs h; rw [List.take_zero,List.take_zero]; exact .nil
 | succ n ih =>
  intro xs bs h;cases h with
  | nil=>exact .nil
  | cons a b=>exact .cons a (ih b)
theorem Bears.drop (n:Nat):∀ {xs:List V} {bs:List β},Bears K H enc xs bs->Bears K H enc (xs.drop n) (bs.drop n):=by
 induction n with
 | zero=>intro xs bs h; exact h
 | succ n ih =>
  intro xs bs h;cases h with
  | nil=>exact .nil
  | cons a b=>exact ih b
end
section
variable {X:Cx} {pins:List (Addr × Obj)} {σ:L2.St} {H:Hp} {s:Shared} {β:Type} {enc:β->PyData}
theorem P6 (I:Inv X pins σ H s):∀ {vs:List V} {us:List Value} {bs:List β},Bears X.K H enc vs bs->Vals vs us ->
  EachIs (fun u b=>∃ v,RelV v u/\Dp X.K H v (enc b)) us bs/\EachIs (fun u b=>∃ as,Reads s.heap u (enc b) as) us bs
 | _,_,_,.nil,.nil=>⟨.nil,.nil⟩
 | _,_,_,.cons h t,.cons r u=>by
  obtain ⟨h1,h2⟩:=P6 I t u;exact ⟨.cons ⟨_,r,h⟩ h1,.cons (Dp.reads I _ _ _ h r) h2⟩
theorem Ss {K:Qn}:∀ {us:List Value} {bs:List β},EachIs (fun u b=>∃ v,RelV v u/\Dp K H v (enc b)) us bs->∃ vs,Vals vs us/\Bears K H enc vs bs
 | _,_,.nil=>⟨[],.nil,.nil⟩
 | _,_,.cons ⟨v,r,h⟩ t=>by
  obtain ⟨vs,h1,h2⟩:=Ss t;exact ⟨v::vs,.cons r h1,.cons h h2⟩
end
section
variable {P:Program} {w:World} {K:Qn} {mg:Str->Option Value} {base:Heap} {f:Addr} {fd:FuncData}
def Su (K:Qn):Sp:=fun vs H Q _=>∃ (v:V) (n:String) (b1 b2:Bool),vs=[v]/\TyX K H v (.type n)/\kitB n "int"=some b1/\(b1=true->kitB n "bool"=some b2)/\Q (.bl (b1&&!b2)) H
def PU (K:Qn) (ps:List Addr):Sp:=fun vs H Q _=>∃ (v:V) (d:PyData),vs=[v]/\Th K ps H v d/\Q (.bl (rQ d)) H
end
def ltsD:List PyData->List Bool
 | []=>[]
 | [_]=>[]
 | a::b::r=>dataLt a b::ltsD (b::r)
def KW (ds:List PyData):Bool:=(ltsD ds).all id
theorem Ti:∀ ds:List PyData,(ltsD ds).length=ds.length-1
 | []=>rfl
 | [_]=>rfl
 | a::b::r=>by
  have h:=Ti (b::r);show (ltsD (b::r)).length+1=_;rw [h]; simp
theorem Z6:∀ (ds:List PyData) (i:Nat) (d e:PyData),ds[i]?=some d->ds[i+1]?=some e->(ltsD ds)[i]?=some (dataLt d e)
 | [],_,_,_,h,_=>by simp at h
 | [_],_,_,_,_,h=>by simp at h
 | a::b::r,0,d,e,h1,h2=>by simp at h1 h2; subst h1 h2; rfl
 | a::b::r,i+1,d,e,h1,h2=>by
  have:=Z6 (b::r) i d e (by simpa using h1) (by simpa using h2);simpa [ltsD] using this
theorem OP (xs:List V):cutV xs (some 1) none=xs.drop 1:=by
 unfold cutV;have h1:HT.sIx xs.length 0 (some 1)=min 1 xs.length:=HT.sIx_nat xs.length 0 1;have h2:HT.sIx xs.length xs.length none=xs.length:=rfl;rw [h1,h2];cases xs with
 | nil=>rfl
 | cons x r =>
  have:min 1 (x::r).length=1:=by simp
  rw [this];simp
section
variable {P:Program} {w:World} {K:Qn} {mg:Str->Option Value} {base:Heap} {f:Addr} {fd:FuncData}
def OkD (d:PyData):Prop:=gJ d=true/\d ≠ .none/\d.depth<=100
def ZF (K:Qn):Sp:=fun vs H Q _=>∃ (a:Addr) (xs:List V) (ds:List PyData),vs=[.ref a]/\SqL K H a xs/\DpAll K H xs ds/\(∀ d ∈ ds,OkD d)/\AllAlike ds/\xs.length<=1000 /\
 ∀ H',SB [] H H'->Q (.bl (KW ds)) H'
abbrev ZD:List Str:=[cO,"low","high"]
end
def Lad.num (i:Int):Lad:=if i=0 then .nil else .cons .nil i .nil
def Lad.lt (l k:Lad):Bool:=dataLt l.enc k.enc
section
variable {P:Program} {w:World} {K:Qn} {mg:Str->Option Value} {base:Heap} {f:Addr} {fd:FuncData}
theorem uf (h:SqT K H p []):LA K H (.ref p) .nil:=Dp.tup h .nil
theorem KJ {u:V} {e:Lad} (h:SqT K H p [.ref q]) (h2:SqT K H q [u,.int m]) (h3:LA K H u e):LA K H (.ref p) (.cons e m .nil) :=
 Dp.tup h (.cons (.tup h2 (.cons h3 (.cons (.int m) .nil))) .nil)
def ZU (K:Qn):Sp:=fun vs H Q _=>∃ i:Int,vs=[.int i]/\∀ v H',SB [] H H'->LA K H' v (Lad.num i)->Q v H'
def Bn (K:Qn):Sp:=fun vs H Q _=>∃ (v u:V) (l k:Lad),vs=[v,u]/\LA K H v l/\LA K H u k/\l.deep<=45/\Q (.bl (l.lt k)) H
end
namespace Lad
def ps:Lad->List (Lad × Int)
 | .nil=>[]
 | .cons e m r=>(e,m)::r.ps
def ofPs:List (Lad × Int)->Lad
 | []=>.nil
 | (e,m)::r=>.cons e m (ofPs r)
def aC (p:Lad × Int):PyData:=.tuple [p.1.enc,.int p.2]
theorem aE:∀ l:Lad,ofPs l.ps=l
 | .nil=>rfl
 | .cons e m r=>by show cons e m (ofPs r.ps)=_; rw [aE r]
theorem aK:∀ l:List (Lad × Int),(ofPs l).ps=l
 | []=>rfl
 | (e,m)::r=>by show (e,m)::(ofPs r).ps=_; rw [aK r]
theorem d9:∀ l:Lad,l.encs=l.ps.map aC
 | .nil=>rfl
 | .cons e m r=>by show _::r.encs=aC (e,m)::r.ps.map aC; rw [d9 r]; rfl
theorem a7 (l:Lad):l.ps.length=l.len:=by rw [<- l6,d9,Ye]
theorem bE:∀ (l:Lad) (p:Lad × Int),p ∈ l.ps->p.1.parts < l.parts
 | .nil,_,h=>by simp [ps] at h
 | .cons e m r,p,h=>by
  rcases Qv h with h | h
  ·subst h; show e.parts < 1+e.parts+r.parts; omega
  ·have:=bE r p h; show p.1.parts < 1+e.parts+r.parts; omega
theorem av:∀ (l:Lad) (p:Lad × Int),p ∈ l.ps->p.1.deep < l.deep
 | .nil,_,h=>by simp [ps] at h
 | .cons e m r,p,h=>by
  rcases Qv h with h | h
  ·subst h; show e.deep < max (1+e.deep) r.deep; omega
  ·have:=av r p h; show p.1.deep < max (1+e.deep) r.deep; omega
end Lad
section
variable {P:Program} {w:World} {K:Qn} {mg:Str->Option Value} {base:Heap} {f:Addr} {fd:FuncData}
theorem jW {p:Lad × Int} (h:Dp K H v (Lad.aC p)):∃ a u,v=.ref a/\SqT K H a [u,.int p.2]/\LA K H u p.1:=by
 have h':Dp K H v (.tuple [p.1.enc,.int p.2]):=h;cases h' with
 | tup hs ha =>
  cases ha with
  | cons a1 a2 =>
   cases a2 with
   | cons b1 b2 =>
    cases b2;cases b1;exact ⟨_,_,Ja,hs,a1⟩
end
def pA:PyData->PyData
 | .tuple (e::_)=>e
 | _=>.none
mutual
def ladD:PyData->Bool
 | .tuple ds=>Yv ds&&KW (ds.map pA).reverse
 | _=>false
def Yv:List PyData->Bool
 | []=>true
 | d::ds=>UR d&&Yv ds
def UR:PyData->Bool
 | .tuple ds=>zks ds
 | _=>false
def zks:List PyData->Bool
 | []=>false
 | e::r=>ladD e&&ud r
def ud:List PyData->Bool
 | []=>false
 | m::r=>rQ m&&r.isEmpty
end
theorem z3o {ds:List PyData} {d:PyData} (h:ds[i]?=some d):d.depth<=PyData.depthAll ds:=PyData.depth_le_depthAll ds d (Qu h)
section
variable {P:Program} {w:World} {K:Qn} {mg:Str->Option Value} {base:Heap} {f:Addr} {fd:FuncData} {ps:List Addr}
mutual
def wide:PyData->Nat
 | .tuple ds=>max ds.length (uB ds)
 | _=>0
def uB:List PyData->Nat
 | []=>0
 | d::ds=>max (wide d) (uB ds)
end
theorem SV:∀ (ds:List PyData) (d:PyData),d ∈ ds->wide d<=uB ds
 | [],_,h=>by simp at h
 | e::ds,d,h=>by
  rw [uB];rcases Qv h with h | h
  ·subst h; omega
  ·have:=SV ds d h; omega
theorem Te (ds:List PyData):wide (.tuple ds)=max ds.length (uB ds):=by rw [wide]
end
section
variable {K:Qn} {H:Hp}
theorem DpAll.append:∀ {xs ys:List V} {ds es:List PyData},DpAll K H xs ds->DpAll K H ys es->DpAll K H (xs++ys) (ds++es)
 | _,_,_,_,.nil,h=>h
 | _,_,_,_,.cons a b,h=>.cons a (DpAll.append b h)
end
section
variable {K:Qn} {a b:Addr} {xs ys:List V}
theorem zbt (hn:n=min xs.length ys.length):Walk (RZ.ItzT K a b) n (fun H=>SqT K H a xs/\SqT K H b ys) (YPair (fun i=>xs[i]?) (fun i=>ys[i]?)):=by
 subst hn;refine ⟨fun i H hi h=>?_,fun H h=>?_,fun i H x H' hi h y=>?_⟩
 ·have h1:i < xs.length:=by omega
  have h2:i < ys.length:=by omega
  exact ⟨xs,ys,xs[i],ys[i],h.1,h.2,Kp h1,Kp h2⟩
 ·exact ⟨xs,ys,h.1,h.2,by omega⟩
 ·obtain ⟨T,x1,y1,e1,e2,e3,e4,e5⟩:=y;exact ⟨T,x1,y1,e1,e2,e3,e4 xs h.1,e5 ys h.2⟩
end
theorem ib (m m':Int):(m == m')=decide (m=m'):=by by_cases h:m=m' <;> simp [h]
theorem Lad.vJ:∀ l k:Lad,PyData.eqvAll l.encs k.encs=decide (l=k)
 | .nil,.nil=>by simp [encs,PyData.eqvAll]
 | .nil,.cons _ _ _=>by simp [encs,PyData.eqvAll]
 | .cons _ _ _,.nil=>by simp [encs,PyData.eqvAll]
 | .cons e m r,.cons e' m' r'=>by
  have h1:=Lad.vJ e e';have h2:=Lad.vJ r r';simp [encs,PyData.eqvAll,PyData.eqv,h1,h2,Bool.and_assoc,ib]
theorem Lad.a5 (l k:Lad):PyData.eqv l.enc k.enc=decide (l=k):=by
 rw [Lad.enc,Lad.enc,PyData.eqv]; exact Lad.vJ l k
theorem Lad.lt_nil_nil:Lad.lt .nil .nil=false:=by decide +kernel
theorem Lad.lt_nil_cons (e:Lad) (m:Int) (r:Lad):Lad.lt .nil (.cons e m r)=true:=by
 unfold Lad.lt Lad.enc;rw [dataLt_tuple,Lad.encs,Lad.encs,toks_all_cons,show keyToksAll []=[.inl 0] by simp [keyToksAll],lex_atom (by simp),lex_one]
 decide +kernel
theorem Lad.lt_cons_nil (e:Lad) (m:Int) (r:Lad):Lad.lt (.cons e m r) .nil=false:=by
 unfold Lad.lt Lad.enc;rw [dataLt_tuple,Lad.encs,Lad.encs,toks_all_cons,show keyToksAll []=[.inl 0] by simp [keyToksAll],lex_atom (by simp),lex_one]
 decide +kernel
theorem Lad.dA (e e':Lad) (m m':Int) (r r':Lad):Lad.lt (.cons e m r) (.cons e' m' r')=if e=e' then (if m=m' then r.lt r' else decide (m < m')) else e.lt e':=by
 have al:alike (.tuple [e.enc,.int m]) (.tuple [e'.enc,.int m'])=true:=by simp [alike,alikeAll,e.dQ e']
 have h1:Lad.lt (.cons e m r) (.cons e' m' r')=if PyData.eqv (.tuple [e.enc,.int m]) (.tuple [e'.enc,.int m'])=true then r.lt r' else dataLt (.tuple [e.enc,.int m]) (.tuple [e'.enc,.int m']):=by
  unfold Lad.lt;rw [show (Lad.cons e m r).enc=.tuple (.tuple [e.enc,.int m]::r.encs) from rfl,show (Lad.cons e' m' r').enc=.tuple (.tuple [e'.enc,.int m']::r'.encs) from rfl,dataLt_tuple,dataLt_cons al];rw [show dataLt r.enc r'.enc=PyProof.Rows.lexLt itemOrd (keyToksAll r.encs) (keyToksAll r'.encs) from dataLt_tuple _ _]
 have h2:PyData.eqv (.tuple [e.enc,.int m]) (.tuple [e'.enc,.int m'])=(decide (e=e')&&decide (m=m')):=by
  simp [PyData.eqv,PyData.eqvAll,Lad.a5,ib]
 rw [h1,h2,dataLt_pair (e.dQ e') (by simp [alike]),Lad.a5];by_cases he:e=e'
 ·by_cases hm:m=m'
  ·simp [he,hm]
  ·simp [he,hm,PyData.eqv,dataLt_int]
 ·simp [he,Lad.lt]
namespace Lad
theorem lt_irrefl:∀ l:Lad,l.lt l=false
 | .nil=>lt_nil_nil
 | .cons e m r=>by rw [dA,if_pos rfl,if_pos rfl]; exact lt_irrefl r
theorem cL:∀ l:Lad,l.lt .nil=false
 | .nil=>lt_nil_nil
 | .cons e m r=>lt_cons_nil e m r
theorem dk {l k:Lad} (h:l.lt k=true):l ≠ k:=fun z=>by subst z; rw [lt_irrefl] at h; cases h
theorem d6:∀ l k:Lad,l ≠ k->l.lt k=false->k.lt l=true
 | .nil,.nil,h,_=>absurd rfl h
 | .nil,.cons e m r,_,h=>by rw [lt_nil_cons] at h; cases h
 | .cons e m r,.nil,_,_=>lt_nil_cons e m r
 | .cons e m r,.cons e' m' r',vz,h=>by
  rw [dA] at h ⊢;by_cases he:e=e'
  ·subst he;rw [if_pos rfl] at h ⊢;by_cases hm:m=m'
   ·subst hm;rw [if_pos rfl] at h ⊢;exact d6 r r' (fun z=>vz (by rw [z])) h
   ·rw [if_neg hm] at h;rw [if_neg (fun z=>hm z.symm)];have:=of_decide_eq_false h;exact Ya (by omega)
  ·rw [if_neg he] at h;rw [if_neg (fun z=>he z.symm)];exact d6 e e' he h
theorem lt_trans:∀ l k j:Lad,l.lt k=true->k.lt j=true->l.lt j=true
 | _,_,.nil,_,h=>by rw [cL] at h; cases h
 | _,.nil,.cons _ _ _,h,_=>by rw [cL] at h; cases h
 | .nil,.cons _ _ _,.cons e m r,_,_=>lt_nil_cons e m r
 | .cons e m r,.cons e' m' r',.cons e'' m'' r'',h1,h2=>by
  rw [dA] at h1 h2 ⊢;by_cases he:e=e'
  ·subst he;rw [if_pos rfl] at h1;by_cases pS:e=e''
   ·subst pS;rw [if_pos rfl] at h2 ⊢;by_cases hm:m=m'
    ·subst hm;rw [if_pos rfl] at h1;by_cases rB:m=m''
     ·subst rB;rw [if_pos rfl] at h2 ⊢;exact lt_trans r r' r'' h1 h2
     ·rw [if_neg rB] at h2 ⊢;exact h2
    ·rw [if_neg hm] at h1;have a1:=Ks h1;by_cases rB:m'=m''
     ·subst rB;rw [if_neg hm];exact h1
     ·rw [if_neg rB] at h2;have a2:=Ks h2;rw [if_neg (by omega)];exact Ya (by omega)
   ·rw [if_neg pS] at h2 ⊢;exact h2
  ·rw [if_neg he] at h1;by_cases pS:e'=e''
   ·subst pS;rw [if_neg he];exact h1
   ·rw [if_neg pS] at h2;have h3:=lt_trans e e' e'' h1 h2;rw [if_neg (dk h3)];exact h3
theorem lt_asymm {l k:Lad} (h:l.lt k=true):k.lt l=false:=by
 cases e:k.lt l with
 | false=>rfl
 | true =>
  have:=lt_trans l k l h e;rw [lt_irrefl] at this;cases this
def Ok (B:Int):Lad->Prop
 | .nil=>True
 | .cons e m r=>e.Ok B/\1<=m/\m < B/\r.Ok B/\∀ p ∈ r.ps,p.1.lt e=true
theorem Ok.mono {B C:Int} (h:B<=C):∀ {l:Lad},l.Ok B->l.Ok C
 | .nil,_=>trivial
 | .cons e m r,⟨h1,h2,h3,h4,h5⟩=>⟨Ok.mono h h1,h2,by omega,Ok.mono h h4,h5⟩
theorem eF {B:Int}:∀ {ps:List (Lad × Int)},(ofPs ps).Ok B ↔ (∀ p ∈ ps,p.1.Ok B/\1<=p.2/\p.2 < B)/\ps.Pairwise (fun p q=>q.1.lt p.1=true)
 | []=>by simp [ofPs,Ok]
 | (e,m)::r=>by
  have ih:=eF (B:=B) (ps:=r);show (e.Ok B/\1<=m/\m < B/\(ofPs r).Ok B/\∀ p ∈ (ofPs r).ps,p.1.lt e=true) ↔ _;rw [aK,List.pairwise_cons,ih];constructor
  ·rintro ⟨h1,h2,h3,⟨h4,h5⟩,h6⟩
   refine ⟨fun p hp=>?_,h6,h5⟩;rcases Qv hp with hp | hp
   ·subst hp; exact ⟨h1,h2,h3⟩
   ·exact h4 p hp
  ·rintro ⟨h1,h2,h3⟩
   have h4:=h1 (e,m) (bw ..);exact ⟨h4.1,h4.2.1,h4.2.2,⟨fun p hp=>h1 p (bI _ hp),h3⟩,h2⟩
theorem aV {l:Lad}:l.Ok B ↔ (∀ p ∈ l.ps,p.1.Ok B/\1<=p.2/\p.2 < B)/\l.ps.Pairwise (fun p q=>q.1.lt p.1=true):=by
 have:=eF (B:=B) (ps:=l.ps);rw [aE] at this;exact this
end Lad
section
variable {P:Program} {w:World} {K:Qn} {mg:Str->Option Value} {base:Heap} {f:Addr} {fd:FuncData}
def spLaw (K:Qn):Sp:=fun vs H Q _=>∃ (a:Addr) (ns:List Int),vs=[.ref a]/\SqL K H a (ns.map V.int)/\ns.length<=63/\∀ H',Q (.bl true) H'
theorem vW {ps:List Str} {sp:Sp} (no:∀ vs H Q E,¬ sp vs H Q E):FnOk P w K mg base CX0 k f fd ps sp :=
 ⟨fun vs H Q E h=>absurd h (no vs H Q E),fun A outer s H args us vs Q E _ _ _ _ h=>absurd h (no vs H Q E)⟩
end
namespace Lad
theorem oZ:∀ l:Lad,PyData.canLayAll0 l.encs=true
 | .nil=>by simp [encs,PyData.canLayAll0]
 | .cons e m r=>by simp [encs,PyData.canLayAll0,PyData.canLay0,oZ e,oZ r]
theorem aA {l:Lad} (h:l.deep<=31):SeqAt.shaped l.enc=true:=by
 have:=l.eO;unfold SeqAt.shaped;rw [show l.enc.canLay0=true by rw [enc,PyData.canLay0]; exact oZ l];simp; omega
theorem vd (p q:Lad × Int):alike (aC p) (aC q)=true:=by simp [aC,alike,alikeAll,p.1.dQ q.1]
theorem ae (p:Lad × Int):gJ (aC p)=true:=by simp [aC,gJ,kT,Lad.af]
theorem eL (p:Lad × Int):(aC p).depth<=2*p.1.deep+2:=by
 have:=p.1.eO;simp only [aC,PyData.depth,PyData.depthAll]; omega
theorem nH (bs:List (Lad × Int)):AllAlike (bs.map aC):=AllAlike.of vd
theorem fW (bs:List (Lad × Int)):Sortable (bs.map aC):=Sortable.tuples fun b=>⟨_,_,rfl⟩
theorem UA (p q:Lad × Int):dataLt (aC p) (aC q)=if p.1=q.1 then decide (p.2 < q.2) else p.1.lt q.1:=by
 unfold aC;rw [dataLt_pair (p.1.dQ q.1) (by simp [alike]),Lad.a5];by_cases h:p.1=q.1
 ·rw [if_pos (by simp [h]),if_pos h,dataLt_int];by_cases h2:p.2=q.2
  ·simp [PyData.eqv,h2]
  ·simp [PyData.eqv,h2]
 ·rw [if_neg (by simp [h]),if_neg h]; rfl
def tot:List (Lad × Int)->Nat
 | []=>0
 | p::r=>1+p.1.parts+tot r
theorem aP:∀ bs:List (Lad × Int),(ofPs bs).parts=tot bs
 | []=>rfl
 | (e,m)::r=>by show 1+e.parts+(ofPs r).parts=1+e.parts+tot r; rw [aP r]
theorem aT:∀ bs cs:List (Lad × Int),tot (bs++cs)=tot bs+tot cs
 | [],cs=>by simp [tot]
 | p::r,cs=>by show 1+p.1.parts+tot (r++cs)=_; rw [aT r cs,tot]; omega
theorem jx (f:Lad × Int->Bool):∀ bs:List (Lad × Int),tot (bs.filter f)<=tot bs
 | []=>by simp [tot]
 | p::r=>by
  have:=jx f r;rw [List.filter_cons]
  split
  ·show 1+p.1.parts+tot (r.filter f)<=1+p.1.parts+tot r; omega
  ·show tot (r.filter f)<=1+p.1.parts+tot r; omega
theorem jX {bs cs:List (Lad × Int)} (h:bs.Perm cs):tot bs=tot cs:=by
 induction h with
 | nil=>rfl
 | cons x _ ih=>simp only [tot]; omega
 | swap x y l=>simp only [tot]; omega
 | trans _ _ h1 h2=>omega
theorem eQ {n:Nat}:∀ {bs:List (Lad × Int)},(∀ b ∈ bs,b.1.deep < n)->(ofPs bs).deep<=n
 | [],_=>Nat.zero_le _
 | (e,m)::r,h=>by
  have h1:=eQ (bs:=r) fun b hb=>h b (bI _ hb);have h2:e.deep < n:=h (e,m) (bw ..);show max (1+e.deep) (ofPs r).deep<=n;omega
end Lad
theorem uD {bs:List (Lad × Int)} (h:SqT K H a xs) (hb:Bears K H Lad.aC xs bs):LA K H (.ref a) (Lad.ofPs bs):=by
 refine Dp.tup h ?_;rw [Lad.d9,Lad.aK];exact hb.dp
theorem je {l:Lad} (h:LA K H v l):∃ a xs,v=.ref a/\SqT K H a xs/\Bears K H Lad.aC xs l.ps:=by
 obtain ⟨a,xs,rfl,hs,ha⟩:=h.tup;rw [Lad.d9] at ha;exact ⟨a,xs,Ja,hs,Bears.of ha⟩
def YC (K:Qn):R2:=fun x y H Q=>∃ a b xs ys,x=.ref a/\y=.ref b/\SqT K H a xs/\SqT K H b ys/\xs.length+ys.length<=10000000/\∀ c H',SB [] H H'->SqT K H' c (xs++ys)->Q (.ref c) H'
def rSlB (K:Qn):V->Option Int->Option Int->Hp->VK->Prop:=fun x lo hi H Q=>∃ a xs,x=.ref a/\SqT K H a xs/\∀ c H',SB [] H H'->SqT K H' c (cutV xs lo hi)->Q (.ref c) H'
section
variable {X:Cx}
theorem yc:OpR X (binaryOp .Add) (YC X.K):=by
 intro pins s σ H x y v u Q I rx ry h;obtain ⟨a,b,xs,ys,rfl,rfl,ha,hb,hz,q⟩:=h;refine op_catA pins s σ H _ _ v u Q I rx ry ⟨a,b,xs,ys,Ja,Ja,ha,hb,by rw [sizeLine_eq]; omega,fun e=>?_,fun e1 e2=>?_,fun e1 e2 p hp=>?_⟩
 ·subst e; exact q b H SB.refl hb
 ·subst e2; exact q a H SB.refl (by rw [Kz]; exact ha)
 ·exact q p _ (SB.new hp _) (SqT.of Qt)
theorem yq:SlR X (rSlB X.K):=by
 intro pins s σ H x v vl vu lo hi sl Q I rx hs pl pu h;obtain ⟨a,xs,rfl,hx,q⟩:=h;refine sl_tupA pins s σ H _ v vl vu lo hi sl Q I rx hs pl pu ⟨a,xs,Ja,hx,fun e=>?_,fun e p hp=>?_⟩
 ·refine q a H SB.refl ?_;have:cutV xs lo hi=xs:=by
   unfold cutV;rw [e.1,e.2];simp
  rw [this]; exact hx
 ·exact q p _ (SB.new hp _) (SqT.of Qt)
end
theorem P5 (xs:List V) (k:Nat):cutV xs none (some (k:Int))=xs.take k:=by
 unfold cutV;have h1:HT.sIx xs.length 0 none=0:=rfl;have h2:HT.sIx xs.length xs.length (some (k:Int))=min k xs.length:=HT.sIx_nat xs.length xs.length k;rw [h1,h2];simp
theorem KR (xs:List V) (k:Nat):cutV xs (some (k:Int)) none=xs.drop k:=by
 unfold cutV;have h1:HT.sIx xs.length 0 (some (k:Int))=min k xs.length:=HT.sIx_nat xs.length 0 k;have h2:HT.sIx xs.length xs.length none=xs.length:=rfl;rw [h1,h2];by_cases h:k<=xs.length
 ·rw [Nat.min_eq_left h,List.take_of_length_le (by rw [List.length_drop]; omega)]
 ·rw [Nat.min_eq_right (by omega),List.drop_eq_nil_of_le (Yc _),List.drop_eq_nil_of_le (by omega)];simp
namespace Lad
def aG (ps:List (Lad × Int)) (e:Lad):Int:=((ps.filter fun p=>decide (p.1=e)).map (·.2)).sum
def cI (l k:Lad):Lad:=match k.ps with
 | []=>l
 | (e,m)::r=>ofPs (l.ps.filter (fun p=>e.lt p.1)++(e,aG l.ps e+m)::r)
theorem dC (l:Lad):cI l .nil=l:=rfl
theorem cM (l e:Lad) (m:Int) (r:Lad):cI l (.cons e m r)=ofPs (l.ps.filter (fun p=>e.lt p.1)++(e,aG l.ps e+m)::r.ps):=rfl
end Lad
def SQ (K:Qn):Sp:=fun vs H Q _=>∃ (v u:V) (l e:Lad),vs=[v,u]/\LA K H v l/\LA K H u e/\l.deep<=30/\e.deep<=30/\l.parts<=1000000/\∀ H',SB [] H H'->Q (.int (Lad.aG l.ps e)) H'
def K5 (K:Qn):Sp:=fun vs H Q _=>∃ (v u:V) (l k:Lad),vs=[v,u]/\LA K H v l/\LA K H u k/\l.deep<=30/\k.deep<=30/\l.parts<=900000/\k.parts<=900000/\∀ (x:V) (H':Hp),SB [] H H'->LA K H' x (l.cI k)->Q x H'
namespace Lad
theorem cn {l:Lad} (h:l.deep<=n):∀ p ∈ l.ps,p.1.deep < n:=fun p hp=>Nat.lt_of_lt_of_le (av l p hp) h
end Lad
namespace Lad
theorem fC (l k:Lad):(cI l k).parts<=l.parts+k.parts:=by
 cases k with
 | nil=>rw [dC]; omega
 | cons e m r =>
  rw [cM,aP,aT];have h1:l.parts=tot l.ps:=by rw [<- aP,aE]
  have h2:=jx (fun p=>e.lt p.1) l.ps;have h3:r.parts=tot r.ps:=by rw [<- aP,aE]
  simp only [tot,Lad.parts];omega
theorem eV {l k:Lad} (hl:l.deep<=n) (hk:k.deep<=n):(cI l k).deep<=n:=by
 cases k with
 | nil=>rw [dC]; exact hl
 | cons e m r =>
  rw [cM];refine eQ fun b hb=>?_;rcases Qw hb with hb | hb
  ·exact cn hl b (List.mem_filter.mp hb).1
  ·rcases Qv hb with hb | hb
   ·subst hb; exact cn hk (e,m) (bw ..)
   ·exact cn hk b (bI _ hb)
theorem BO (k:Lad):cI .nil k=k:=by
 cases k with
 | nil=>rfl
 | cons e m r =>
  rw [cM];show ofPs ([]++(e,aG [] e+m)::r.ps)=_;have:aG [] e+m=m:=by simp [aG]
  rw [this];show cons e m (ofPs r.ps)=_;rw [aE]
end Lad
namespace Lad
theorem L0 (p q:Lad × Int) (r s:List (Lad × Int)):(ofPs (p::r)).lt (ofPs (q::s))=if p.1=q.1 then (if p.2=q.2 then (ofPs r).lt (ofPs s) else decide (p.2 < q.2)) else p.1.lt q.1:=dA _ _ _ _ _ _
theorem wz {l o:Lad} {p q:Lad × Int} (hp:l.ps[k]?=some p) (hq:o.ps[k]?=some q):(ofPs (l.ps.drop k)).lt (ofPs (o.ps.drop k))=if p.1=q.1 then (if p.2=q.2 then (ofPs (l.ps.drop (k+1))).lt (ofPs (o.ps.drop (k+1))) else decide (p.2 < q.2)) else p.1.lt q.1:=by
 have h1:k < l.ps.length:=(Kq hp).1;have h2:k < o.ps.length:=(Kq hq).1;have e1:l.ps[k]=p:=(Kq hp).2;have e2:o.ps[k]=q:=(Kq hq).2;rw [List.drop_eq_getElem_cons h1,List.drop_eq_getElem_cons h2,e1,e2,L0]
theorem zq {l o:Lad} (hk:k<=l.ps.length) (Bc:k<=o.ps.length) (h:¬ (k < l.ps.length/\k < o.ps.length)):(ofPs (l.ps.drop k)).lt (ofPs (o.ps.drop k))=(decide (k=l.ps.length)&&decide (k < o.ps.length)):=by
 by_cases h1:k=l.ps.length
 ·rw [List.drop_eq_nil_of_le (show l.ps.length<=k by omega)];by_cases h2:k < o.ps.length
  ·rw [List.drop_eq_getElem_cons h2];show Lad.lt .nil (.cons _ _ _)=_;rw [lt_nil_cons]; simp [h1]; omega
  ·rw [List.drop_eq_nil_of_le (by omega)];show Lad.lt .nil .nil=_;rw [lt_nil_nil]; simp; intro _; omega
 ·have h2:¬ k < o.ps.length:=by omega
  rw [List.drop_eq_nil_of_le (as:=o.ps) (by omega)];show Lad.lt _ .nil=_;rw [cL]; simp [h1]
end Lad
def yb (K:Qn) (n:Nat):Sp:=fun vs H Q _=>∃ (v u:V) (l k:Lad),vs=[v,u]/\LA K H v l/\LA K H u k/\l.deep < n/\l.deep<=30/\k.deep<=30/\∀ H',SB [] H H'->Q (.bl (l.lt k)) H'
theorem Bears.at {K:Qn} {H:Hp} {β:Type} {enc:β->PyData}:∀ {vs:List V} {bs:List β} {i:Nat} {b:β},Bears K H enc vs bs->bs[i]?=some b->∃ v,vs[i]?=some v/\Dp K H v (enc b)
 | _,_,_,_,.nil,e=>by simp at e
 | _,_,0,_,.cons h t,e=>by simp at e; subst e; exact ⟨_,Ja,h⟩
 | _,_,i+1,b,.cons h t,e=>by
  obtain ⟨d,h1,h2⟩:=Bears.at (i:=i) (b:=b) t (by simpa using e);exact ⟨d,by simpa using h1,h2⟩
namespace Lad
theorem le_trans {a b c:Lad} (h1:b.lt a=false) (h2:c.lt b=false):c.lt a=false:=by
 cases e:c.lt a with
 | false=>rfl
 | true =>
  by_cases jH:a=b
  ·subst jH; rw [e] at h2; cases h2
  ·have h3:a.lt b=true:=d6 b a (fun z=>jH z.symm) h1;have h4:=lt_trans c a b e h3;rw [h4] at h2; cases h2
theorem le_of_lt {a b:Lad} (h:a.lt b=true):b.lt a=false:=lt_asymm h
end Lad
section
variable {prog:Program} {w:World} {A:Around} {E:Value->Shared->Prop} {s:Shared} {β:Type} {vs:List Value} {bs:List β} {enc:β->PyData} {R:Value->β->Prop}
theorem z9g {kw:List (Str × Value)} {b:Bool} {Q:Value->Shared->Prop} (yi:∀ a,Builtin.«list.sort» ⟨[.ref a],kw⟩=Builtin.«list.sort» ⟨[.ref a],[(Str.ofString "reverse",.bool b)]⟩) (tG:argsOk "sorted" ⟨[.ref t],kw⟩) (yn:∀ x,argsOk "list.sort" ⟨[.ref x],kw⟩)
  (ht:IsTup s.heap t vs.toArray) (e:EachIs R vs bs) (er:EachIs (fun v b=>∃ as,Reads s.heap v (enc b) as) vs bs) (tE:AllAlike (bs.map enc)) (hk:Sortable (bs.map enc)) (hL:bs.length<=sizeLine)
  (hu:∀ b,b ∈ bs->A.units+2+(enc b).depth < cLine)
  (h:∀ (out:List Value) (h' h2:Heap) (n:Nat),(∀ b o,s.heap.get? b=some o->h'.get? b=some o)->(∀ b o,h'.get? b=some o->h2.get? b=some o)->h2.get? h'.objs.size=some (seqObj "list" out.toArray n)->out.length=bs.length->EachIs R out (bs.mergeSort (dataLe b enc))->Q (.ref h'.objs.size) { s with heap:=h2 }) :
  wpAny (model prog w) A (call (.builtin "sorted") [.ref t] kw) Q E s:=by
 have hlen:vs.length<=sizeLine:=by rw [e.length]; exact hL
 obtain ⟨o,ho,hc,n0,hd⟩:=id ht;refine call_function_entry_kw kind_sorted plain_sorted entry_sorted tG ?_;unfold Builtin.«sorted»;refine wpAny_bind (m:=checkCount "sorted" 1 1 _) (wpAny_pure ?_);refine Ke (wpAny_collect_seq t (.inr rfl) ho hc hd (fun h' yj=>?_) (by rw [List.size_toArray]; exact hlen));refine Ke (wpAny_newList ?_ hlen);show wpAny _ _ _ _ _ { s with heap:=h'.push (seqObj "list" vs.toArray 0) };have zT:(h'.push (seqObj "list" vs.toArray 0)).get? h'.objs.size=some (seqObj "list" vs.toArray 0):=Heap.get?_push_size _ rfl;refine Ke (wpAny_holding (wpAny_call_entry_kw slot_list_sort ⟨_,zT,Ja⟩ entry_list_sort ?body (yn _)))
 case body =>
  rw [yi];have old:∀ b o,h'.get? b=some o->(sortingHeap (h'.push (seqObj "list" vs.toArray 0)) h'.objs.size vs).get? b=some o:=fun b o q=>sortingHeap_old (Nat.ne_of_lt (Heap.lt_size q)) (Heap.get?_push_of_some _ q);have Er:EachIs (fun v b=>∃ as,Reads (sortingHeap (h'.push (seqObj "list" vs.toArray 0)) h'.objs.size vs) v (enc b) as) vs bs:=er.mono fun _ _ ⟨as,r⟩=>⟨as,PyProof.Rows.Reads.keeps (fun b o q=>old b o (yj b o q)) r⟩;refine list_sort_rev_vals (s:={ s with heap:=h'.push (seqObj "list" vs.toArray 0) }) (κ:=dataKind (sortingHeap (h'.push (seqObj "list" vs.toArray 0)) h'.objs.size vs) (bs.map enc)) zT (SortsAt.data (s:={ s with heap:=sortingHeap (h'.push (seqObj "list" vs.toArray 0)) h'.objs.size vs }) (each_map (R:=fun v d=>∃ as,Reads (sortingHeap (h'.push (seqObj "list" vs.toArray 0)) h'.objs.size vs) v d as) enc Er) tE hk (bound_map hu)) hlen ?_;refine ⟨_,Ja,wpAny_pure ⟨_,Ja,?_⟩⟩;obtain ⟨n2,tA⟩:=sortedHeap_at (out:=(sortVals (dataKind (sortingHeap (h'.push (seqObj "list" vs.toArray 0)) h'.objs.size vs) (bs.map enc)) b vs vs).toArray) zT;refine h _ h' _ n2 yj (fun b o q=>?_) tA (by rw [sortVals_length b rfl]; exact e.length) (sortVals_data b e Er tE);rw [sortedHeap_old (Nat.ne_of_lt (Heap.lt_size q)) (by rw [size_push']; exact Nat.lt_succ_of_lt (Heap.lt_size q))];exact Heap.get?_push_of_some _ q
end
def ZK (K:Qn) {β:Type} (enc:β->PyData) (b:Bool) (vs:List V) (H:Hp) (Q:VK):Prop:=∃ (a:Addr) (xs:List V) (bs:List β),vs=[V.ref a]/\SqT K H a xs/\Bears K H enc xs bs/\AllAlike (bs.map enc)/\Sortable (bs.map enc)/\bs.length<=10000000/\(∀ b ∈ bs,(enc b).depth<=100) /\
 ∀ (p:Addr) (ys:List V),H p=none->Bears K H enc ys (bs.mergeSort (dataLe b enc))->Q (.ref p) (upd H p (.lst ys))
section
variable {X:Cx}
theorem z9f {β:Type} {enc:β->PyData} {b:Bool} {kw:List (Str × Value)} (hu:X.A.units+110 < cLine) (yi:∀ a,Builtin.«list.sort» ⟨[.ref a],kw⟩=Builtin.«list.sort» ⟨[.ref a],[(Str.ofString "reverse",.bool b)]⟩) (tG:∀ t,argsOk "sorted" ⟨[.ref t],kw⟩) (yn:∀ x,argsOk "list.sort" ⟨[.ref x],kw⟩)
  {pins:List (Addr × Obj)} {s:Shared} {σ:L2.St} {H:Hp} {vs:List V} {us:List Value} {Q:VK} (I:Inv X pins σ H s) (r:Vals vs us) (h:ZK X.K enc b vs H Q):wpAny (model X.prog X.w) X.A (call (.builtin "sorted") us kw) (EP X pins σ Q) X.xe s:=by
 obtain ⟨a,xs,bs,rfl,hs,hb,tE,Mo,hl,hd,q⟩:=h;obtain ⟨bV,rv,Vx,_⟩:=I.tuple hs;rw [Vals.ref1 r];obtain ⟨e1,e2⟩:=P6 I hb rv;refine z9g (vs:=bV) (bs:=bs) (enc:=enc) (R:=fun u b=>∃ v,RelV v u/\Dp X.K H v (enc b)) yi (tG _) yn Vx e1 e2 tE Mo (by rw [sizeLine_eq]; omega) (fun b m=>by have:=hd b m; omega) fun out h' h2 n k1 k2 zT ho h1=>?_;obtain ⟨ys,g2,g3⟩:=Ss h1;have I':Inv X pins σ H { s with heap:=h' }:=I.kept (t':=s.toks) k1;have hlen:ys.length<=sizeLine:=by rw [g2.length,ho,sizeLine_eq]; omega
 exact ⟨.ref _,upd H h'.objs.size (.lst ys),I'.laid (t':=s.toks) (fun b o e=>k2 b o e) (Yc _) ⟨hlen,out,n,g2,zT⟩,Ja,q _ ys (I'.hok.fresh (Yc _)) g3⟩
theorem zao {β:Type} (enc:β->PyData) (hu:X.A.units+110 < cLine):CallR X (.builtin "sorted") (ZK X.K enc false):=by
 intro pins s σ H vs us Q I r h;exact z9f (kw:=[]) hu plain_is_rev (fun _=>args_sorted1 _) (fun _=>args_list_sort _) I r h
end
section
variable {γ:Type} [DecidableEq γ]
def mS (enc:γ->PyData) (p:γ × Int):PyData:=.tuple [enc p.1,.int p.2]
def fw (acc:List (γ × Int)) (p:γ × Int):List (γ × Int):=match acc.getLast? with
 | some q=>if q.1=p.1 then acc.dropLast++[(p.1,q.2+p.2)] else acc++[p]
 | none=>[p]
def jn (bs:List (γ × Int)):List (γ × Int):=bs.foldl fw []
theorem yt (p:γ × Int):fw [] p=[p]:=rfl
theorem rZ (acc:List (γ × Int)) (q p:γ × Int):fw (acc++[q]) p=if q.1=p.1 then acc++[(p.1,q.2+p.2)] else acc++[q]++[p]:=by
 unfold fw;rw [List.getLast?_append];simp
theorem z8z (acc:List (γ × Int)) (p:γ × Int):(fw acc p).length<=acc.length+1:=by
 rcases List.eq_nil_or_concat acc with h | ⟨a,q,h⟩
 ·subst h; simp [fw]
 ·subst h;rw [List.concat_eq_append,rZ]
  split <;> simp
theorem Zb (bs:List (γ × Int)) (i:Nat) (p:γ × Int) (h:bs[i]?=some p):jn (bs.take (i+1))=fw (jn (bs.take i)) p:=by
 unfold jn;rw [Yg,h,List.foldl_append]
 rfl
theorem z7r (bs:List (γ × Int)):(jn bs).length<=bs.length:=by
 have key:∀ (bs acc:List (γ × Int)),(bs.foldl fw acc).length<=acc.length+bs.length:=by
  intro bs
  induction bs with
  | nil=>intro acc; simp
  | cons p r ih =>
   intro acc;have h1:=ih (fw acc p);have h2:=z8z acc p;show (r.foldl fw (fw acc p)).length<=_;rw [Yk];omega
 have:=key bs [];simpa [jn] using this
theorem EM (bs:List (γ × Int)):∀ p ∈ jn bs,∃ q ∈ bs,q.1=p.1:=by
 have key:∀ (bs acc:List (γ × Int)),∀ p ∈ bs.foldl fw acc,(∃ q ∈ acc,q.1=p.1)\/∃ q ∈ bs,q.1=p.1:=by
  intro bs
  induction bs with
  | nil=>intro acc p hp; exact .inl ⟨p,hp,Ja⟩
  | cons x r ih =>
   intro acc p hp;rcases ih (fw acc x) p hp with ⟨q,hq,e⟩ | ⟨q,hq,e⟩
   ·rcases List.eq_nil_or_concat acc with h | ⟨a,z,h⟩
    ·subst h;rw [yt] at hq;have:q=x:=by simpa using hq
     subst this;exact .inr ⟨q,bw ..,e⟩
    ·subst h;rw [List.concat_eq_append] at hq ⊢;rw [rZ] at hq;by_cases hz:z.1=x.1
     ·rw [if_pos hz] at hq;rcases Qw hq with hq | hq
      ·exact .inl ⟨q,gR _ hq,e⟩
      ·have:q=(x.1,z.2+x.2):=by simpa using hq
       subst this;exact .inr ⟨x,bw ..,e⟩
     ·rw [if_neg hz] at hq;rcases Qw hq with hq | hq
      ·exact .inl ⟨q,hq,e⟩
      ·have:q=x:=by simpa using hq
       subst this;exact .inr ⟨q,bw ..,e⟩
   ·exact .inr ⟨q,bI _ hq,e⟩
 intro p hp;rcases key bs [] p hp with ⟨q,hq,_⟩ | h
 ·cases hq
 ·exact h
theorem zkm {bs:List (γ × Int)} (h:bs.Pairwise (fun a b=>a.1 ≠ b.1)):jn bs=bs:=by
 have key:∀ (bs acc:List (γ × Int)),(acc++bs).Pairwise (fun a b=>a.1 ≠ b.1)->bs.foldl fw acc=acc++bs:=by
  intro bs
  induction bs with
  | nil=>intro acc _; simp
  | cons x r ih =>
   intro acc hp;have e:fw acc x=acc++[x]:=by
    rcases List.eq_nil_or_concat acc with h | ⟨a,z,h⟩
    ·subst h; rfl
    ·subst h;rw [List.concat_eq_append] at hp ⊢;rw [rZ,if_neg];have h2:=(List.pairwise_append.mp hp).2.2 z (by simp) x (bw ..);exact h2
   show r.foldl fw (fw acc x)=_;rw [e,ih]
   ·simp
   ·simpa using hp
 have:=key bs [] (by simpa using h);simpa [jn] using this
end
def ZV (K:Qn) {γ:Type} [DecidableEq γ] (enc:γ->PyData):Sp:=fun vs H Q _=>∃ (a:Addr) (xs:List V) (bs:List (γ × Int)),vs=[.ref a]/\SqL K H a xs/\Bears K H (mS enc) xs bs/\bs.length<=2000000/\(∀ b ∈ bs,SeqAt.shaped (enc b.1)=true) /\
 ∀ (c:Addr) (ys:List V) (H':Hp),SB [] H H'->SqT K H' c ys->Bears K H' (mS enc) ys (jn bs)->Q (.ref c) H'
theorem Y0 {γ:Type} {enc:γ->PyData} {p:γ × Int} (h:Dp K H v (mS enc p)):∃ a u,v=.ref a/\SqT K H a [u,.int p.2]/\Dp K H u (enc p.1):=by
 have h':Dp K H v (.tuple [enc p.1,.int p.2]):=h;cases h' with
 | tup hs ha =>
  cases ha with
  | cons a1 a2 =>
   cases a2 with
   | cons b1 b2 =>
    cases b2;cases b1;exact ⟨_,_,Ja,hs,a1⟩
theorem z3l {γ:Type} {enc:γ->PyData} (hn:∀ g,gJ (enc g)=true) (p:γ × Int):gJ (mS enc p)=true:=by simp [mS,gJ,kT,hn]
theorem Sz {γ:Type} {enc:γ->PyData} {u:V} {g:γ} (h:SqT K H a [u,.int m]) (h2:Dp K H u (enc g)):Dp K H (.ref a) (mS enc (g,m)):=Dp.tup h (.cons h2 (.cons (.int m) .nil))
theorem Bears.snoc {β:Type} {enc:β->PyData} {vs:List V} {bs:List β} {b:β} (h:Bears K H enc vs (bs++[b])):∃ us u,vs=us++[u]/\Bears K H enc us bs/\Dp K H u (enc b):=by
 induction bs generalizing vs with
 | nil =>
  cases h with
  | cons h1 h2=>cases h2; exact ⟨[],_,Ja,.nil,h1⟩
 | cons c r ih =>
  cases h with
  | cons h1 h2 =>
   obtain ⟨us,u,e,h3,h4⟩:=ih h2;exact ⟨_::us,u,by rw [e]; rfl,.cons h1 h3,h4⟩
theorem IC:atI (xs++[x]) (-1)=some x:=by
 unfold atI ixN;rw [if_neg (by decide),if_pos (by rw [Yf,Yi]; omega)];simp only [Yf,Yi,Option.bind_some];have:((-1:Int)+((xs.length+1:Nat):Int)).toNat=xs.length:=by omega
 rw [this];simp
theorem zd8:ixN (xs++[x]).length (-1)=some xs.length:=by
 unfold ixN;rw [if_neg (by decide),if_pos (by rw [Yf,Yi]; omega),Yf,Yi]
 congr 1; omega
theorem zcm {y:V}:(xs++[x]).set xs.length y=xs++[y]:=by simp
namespace Lad
theorem Hs {a b:Lad × Int} (h1:dataLt (aC a) (aC b)=false) (h2:dataLt (aC b) (aC a)=false):a=b:=by
 rw [UA] at h1 h2;by_cases h:a.1=b.1
 ·rw [if_pos h] at h1;rw [if_pos h.symm] at h2;have e1:=of_decide_eq_false h1;have e2:=of_decide_eq_false h2;exact Prod.ext h (by omega)
 ·rw [if_neg h] at h1;rw [if_neg (fun z:b.1=a.1=>h z.symm),d6 _ _ h h1] at h2;cases h2
abbrev mM (bs:List (Lad × Int)):List (Lad × Int):=bs.mergeSort (dataLe true aC)
theorem bG (bs:List (Lad × Int)):(mM bs).Perm bs:=List.mergeSort_perm _ _
theorem vK (bs:List (Lad × Int)):(mM bs).Pairwise (fun a b=>dataLt (aC a) (aC b)=false):=by
 have h:=sort_pairwise (le:=dataLe true aC) (sortLe_total _ _ _) bs;refine h.imp fun {a b} jH=>?_;have h2:(!dataLt (aC a) (aC b))=true:=jH;simpa using h2
theorem pZ:∀ {as bs:List (Lad × Int)},as.Perm bs->as.Pairwise (fun a b=>dataLt (aC a) (aC b)=false)->bs.Pairwise (fun a b=>dataLt (aC a) (aC b)=false)->as=bs
 | [],bs,h,_,_=>(List.nil_perm.mp h).symm
 | a::as,[],h,_,_=>by have:=h.length_eq; simp at this
 | a::as,b::bs,h,h1,h2=>by
  have jH:a=b:=by
   have ha:a ∈ b::bs:=h.mem_iff.mp (bw ..);have hb:b ∈ a::as:=h.mem_iff.mpr (bw ..);rcases Qv ha with ha | ha
   ·exact ha
   ·rcases Qv hb with hb | hb
    ·exact hb.symm
    ·exact Hs ((List.pairwise_cons.mp h1).1 b hb) ((List.pairwise_cons.mp h2).1 a ha)
  subst jH;rw [pZ (List.Perm.cons_inv h) (List.pairwise_cons.mp h1).2 (List.pairwise_cons.mp h2).2]
theorem Ae {cs bs:List (Lad × Int)} (hp:cs.Perm bs) (hs:cs.Pairwise (fun a b=>dataLt (aC a) (aC b)=false)):cs=mM bs:=pZ (hp.trans (bG bs).symm) hs (vK bs)
theorem Ad (as bs:List (Lad × Int)):mM (as++bs)=mM (bs++as):=Ae ((bG _).trans List.perm_append_comm) (vK _)
def cu (l k:Lad):Lad:=ofPs (jn (mM (l.ps++k.ps)))
theorem ku (l k:Lad):cu l k=cu k l:=by unfold cu; rw [Ad]
theorem sU {l:Lad} (h:l.Ok B):l.ps.Pairwise (fun a b=>dataLt (aC a) (aC b)=false)/\l.ps.Pairwise (fun a b=>a.1 ≠ b.1):=by
 have h2:=(aV.mp h).2;constructor
 ·refine h2.imp fun {a b} jH=>?_;rw [UA,if_neg (fun z:a.1=b.1=>dk jH z.symm)];exact lt_asymm jH
 ·exact h2.imp fun {a b} jH (z:a.1=b.1)=>dk jH z.symm
theorem mN {l:Lad} (h:l.Ok B):cu l .nil=l:=by
 unfold cu;rw [show l.ps++(Lad.nil).ps=l.ps by simp [ps],<- Ae (List.Perm.refl _) (sU h).1,zkm (sU h).2,aE]
theorem wZ (acc:List (Lad × Int)) (p:Lad × Int):tot (fw acc p)<=tot acc+(1+p.1.parts):=by
 rcases List.eq_nil_or_concat acc with h | ⟨a,z,h⟩
 ·subst h; simp [yt,tot]
 ·subst h;rw [List.concat_eq_append,rZ];by_cases hz:z.1=p.1
  ·rw [if_pos hz,aT,aT]; simp only [tot]; rw [hz]; omega
  ·rw [if_neg hz,aT,aT]; simp only [tot]; omega
theorem qt (bs:List (Lad × Int)):tot (jn bs)<=tot bs:=by
 have key:∀ (bs acc:List (Lad × Int)),tot (bs.foldl fw acc)<=tot acc+tot bs:=by
  intro bs
  induction bs with
  | nil=>intro acc; simp [tot]
  | cons x r ih =>
   intro acc;have h1:=ih (fw acc x);have h2:=wZ acc x;show tot (r.foldl fw (fw acc x))<=tot acc+(1+x.1.parts+tot r);omega
 have:=key bs [];simpa [jn,tot] using this
theorem p5 (l k:Lad):(cu l k).parts<=l.parts+k.parts:=by
 unfold cu;rw [aP];have h1:=qt (mM (l.ps++k.ps));rw [jX (bG _),aT] at h1;have h2:l.parts=tot l.ps:=by rw [<- aP,aE]
 have h3:k.parts=tot k.ps:=by rw [<- aP,aE]
 omega
theorem tP {l k:Lad} (hl:l.deep<=n) (hk:k.deep<=n):(cu l k).deep<=n:=by
 unfold cu;refine eQ fun b hb=>?_;obtain ⟨q,hq,e⟩:=EM _ b hb;rw [<- e];rcases Qw ((bG _).mem_iff.mp hq) with h | h
 ·exact cn hl q h
 ·exact cn hk q h
def bM (l:Lad) (m:Int):Lad:=if m=0 then .nil else ofPs (l.ps.map fun p=>(p.1,p.2*m))
theorem v5 (f:Int->Int):∀ bs:List (Lad × Int),tot (bs.map fun p=>(p.1,f p.2))=tot bs
 | []=>rfl
 | p::r=>by show 1+p.1.parts+tot _=1+p.1.parts+tot r; rw [v5 f r]
theorem iV (l:Lad) (m:Int):(bM l m).parts<=l.parts:=by
 unfold bM
 split
 ·exact Nat.zero_le _
 ·rw [aP,v5 (fun x=>x*m),<- aP,aE]; exact Yc _
theorem iw {l:Lad} (m:Int) (h:l.deep<=n):(bM l m).deep<=n:=by
 unfold bM
 split
 ·exact Nat.zero_le _
 ·refine eQ fun b hb=>?_;obtain ⟨p,hp,rfl⟩:=Qx hb;exact cn h p hp
end Lad
def YU (K:Qn):Sp:=fun vs H Q _=>∃ (v u:V) (l k:Lad),vs=[v,u]/\LA K H v l/\LA K H u k/\l.deep<=30/\k.deep<=30/\l.parts<=800000/\k.parts<=800000/\∀ (x:V) (H':Hp),SB [] H H'->LA K H' x (l.cu k)->Q x H'
def K9 (K:Qn):Sp:=fun vs H Q _=>∃ (v:V) (l:Lad) (m:Int),vs=[v,.int m]/\LA K H v l/\l.parts<=900000/\(∀ p ∈ l.ps,0<=p.2/\p.2 < 2 ^ 2000)/\0<=m/\m < 2 ^ 2000/\∀ (x:V) (H':Hp),SB [] H H'->LA K H' x (l.bM m)->Q x H'
namespace Lad
theorem bh (x:Lad):aG [] x=0:=rfl
theorem ay (e:Lad) (m:Int) (r:List (Lad × Int)) (x:Lad):aG ((e,m)::r) x=(if e=x then m else 0)+aG r x:=by
 unfold aG;rw [List.filter_cons];by_cases h:e=x
 ·simp [h]
 ·simp [h]
theorem bB (as bs:List (Lad × Int)) (x:Lad):aG (as++bs) x=aG as x+aG bs x:=by
 unfold aG;rw [List.filter_append,Yj,List.sum_append]
theorem dH {bs:List (Lad × Int)} {x:Lad} (h:∀ p ∈ bs,p.1 ≠ x):aG bs x=0:=by
 unfold aG;have:bs.filter (fun p=>decide (p.1=x))=[]:=by
  rw [List.filter_eq_nil_iff];intro p hp;simpa using h p hp
 rw [this]; rfl
theorem jy {as bs:List (Lad × Int)} (h:as.Perm bs) (x:Lad):aG as x=aG bs x:=by
 induction h with
 | nil=>rfl
 | cons p _ ih=>obtain ⟨e,m⟩:=p; rw [ay,ay,ih]
 | swap p q l=>obtain ⟨e,m⟩:=p; obtain ⟨e',m'⟩:=q; rw [ay,ay,ay,ay]; omega
 | trans _ _ h1 h2=>omega
theorem sy (acc:List (Lad × Int)) (p:Lad × Int) (x:Lad):aG (fw acc p) x=aG acc x+(if p.1=x then p.2 else 0):=by
 obtain ⟨e,m⟩:=p;rcases List.eq_nil_or_concat acc with h | ⟨a,z,h⟩
 ·subst h; rw [yt,ay,bh]; show (if e=x then m else 0)+0=0+(if e=x then m else 0); omega
 ·subst h;obtain ⟨e',m'⟩:=z;rw [List.concat_eq_append,rZ];by_cases hz:e'=e
  ·rw [if_pos hz,bB,bB,ay,ay,bh];subst hz;by_cases hx:e'=x
   ·simp only [if_pos hx]; omega
   ·simp only [if_neg hx]; omega
  ·rw [if_neg hz,bB,bB,ay,ay,bh]; show _=_+(if e=x then m else 0); omega
theorem mY (bs:List (Lad × Int)) (x:Lad):aG (jn bs) x=aG bs x:=by
 have key:∀ (bs acc:List (Lad × Int)),aG (bs.foldl fw acc) x=aG acc x+aG bs x:=by
  intro bs
  induction bs with
  | nil=>intro acc; show aG acc x=_; rw [bh]; omega
  | cons p r ih =>
   intro acc;obtain ⟨e,m⟩:=p;show aG (r.foldl fw (fw acc (e,m))) x=_;rw [ih,sy,ay];show _+(if e=x then m else 0)+_=_;omega
 have:=key bs [];rw [bh] at this;unfold jn;omega
theorem pG (f:Int->Int) (hf:f 0=0) (Nm:∀ a b,f (a+b)=f a+f b):∀ (bs:List (Lad × Int)) (x:Lad),aG (bs.map fun p=>(p.1,f p.2)) x=f (aG bs x)
 | [],x=>by show aG [] x=_; rw [bh,hf]
 | (e,m)::r,x=>by
  show aG ((e,f m)::r.map _) x=_;rw [ay,ay,pG f hf Nm r x,Nm];by_cases h:e=x
  ·rw [if_pos h,if_pos h]
  ·rw [if_neg h,if_neg h,hf]
abbrev S (l:Lad) (x:Lad):Int:=aG l.ps x
section
variable {B C:Int}
theorem qb {e:Lad} {r:Lad} (h:(Lad.cons e m r).Ok B):S (.cons e m r) e=m:=by
 show aG ((e,m)::r.ps) e=m;rw [ay,if_pos rfl,dH fun p hp=>dk (h.2.2.2.2 p hp)];omega
theorem fz {e:Lad} {r x:Lad} (h:(Lad.cons e m r).Ok B) (hx:e.lt x=true):S (.cons e m r) x=0:=by
 show aG ((e,m)::r.ps) x=0;rw [ay,if_neg (dk hx),dH fun p hp=>dk (lt_trans _ _ _ (h.2.2.2.2 p hp) hx)]
 rfl
theorem iR {l:Lad} (h:l.Ok B) {p:Lad × Int} (hp:p ∈ l.ps):S l p.1=p.2:=by
 induction l with
 | nil=>cases hp
 | cons e m r _ ih =>
  rcases Qv hp with hp | hp
  ·subst hp; exact qb h
  ·show aG ((e,m)::r.ps) p.1=p.2;rw [ay,if_neg (fun z=>dk (h.2.2.2.2 p hp) z.symm)];have:=ih h.2.2.2.1 hp;show 0+S r p.1=_;omega
theorem vN {l x:Lad} (h:∀ p ∈ l.ps,p.1 ≠ x):S l x=0:=dH h
theorem cF {l:Lad} (h:l.Ok B) (x:Lad):(S l x=0/\∀ p ∈ l.ps,p.1 ≠ x)\/(∃ m,(x,m) ∈ l.ps/\S l x=m/\1<=m/\m < B):=by
 by_cases hx:∃ p ∈ l.ps,p.1=x
 ·obtain ⟨p,hp,rfl⟩:=hx;have:=(aV.mp h).1 p hp;exact .inr ⟨p.2,hp,iR h hp,this.2⟩
 ·have IZ:∀ p ∈ l.ps,p.1 ≠ x:=fun p hp z=>hx ⟨p,hp,z⟩;exact .inl ⟨vN IZ,IZ⟩
theorem bW {l:Lad} (h:l.Ok B) (x:Lad):0<=S l x:=by
 rcases cF h x with h1 | ⟨m,_,h1,h2,_⟩ <;> omega
def Au (l k:Lad):Prop:=∃ x,S l x < S k x/\∀ y,x.lt y=true->S l y=S k y
theorem nO {l k:Lad}:∀ (_:l.Ok B) (_:k.Ok C),l.lt k=true->Au l k:=by
 induction l generalizing k with
 | nil =>
  intro hl hk h;cases k with
  | nil=>rw [lt_nil_nil] at h; cases h
  | cons e m r =>
   refine ⟨e,?_,fun y hy=>?_⟩
   ·rw [qb hk]; show aG [] e < m; rw [bh]; have:=hk.2.1; omega
   ·rw [fz hk hy]; rfl
 | cons e m r _ ih =>
  intro hl hk h;cases k with
  | nil=>rw [lt_cons_nil] at h; cases h
  | cons e' m' r' =>
   rw [dA] at h;by_cases he:e=e'
   ·subst he;rw [if_pos rfl] at h;by_cases hm:m=m'
    ·subst hm;rw [if_pos rfl] at h;obtain ⟨x,h1,h2⟩:=ih hl.2.2.2.1 hk.2.2.2.1 h;refine ⟨x,?_,fun y hy=>?_⟩
     ·show aG ((e,m)::r.ps) x < aG ((e,m)::r'.ps) x;rw [ay,ay];have:aG r.ps x < aG r'.ps x:=h1;omega
     ·show aG ((e,m)::r.ps) y=aG ((e,m)::r'.ps) y;rw [ay,ay];have:aG r.ps y=aG r'.ps y:=h2 y hy;omega
    ·rw [if_neg hm] at h;exact ⟨e,by rw [qb hl,qb hk]; exact Ks h,fun y hy=>by rw [fz hl hy,fz hk hy]⟩
   ·rw [if_neg he] at h;refine ⟨e',?_,fun y hy=>?_⟩
    ·rw [fz hl h,qb hk]; have:=hk.2.1; omega
    ·rw [fz hl (lt_trans _ _ _ h hy),fz hk hy]
theorem Au.asymm {l k:Lad} (h:Au l k) (h2:Au k l):False:=by
 obtain ⟨x,a1,a2⟩:=h;obtain ⟨y,b1,b2⟩:=h2;by_cases e:x=y
 ·subst e; omega
 ·cases Rq:x.lt y with
  | true=>have:=a2 y Rq; omega
  | false=>have:=b2 x (d6 x y e Rq); omega
theorem lt_iff {l k:Lad} (hl:l.Ok B) (hk:k.Ok C):l.lt k=true ↔ Au l k:=by
 constructor
 ·exact nO hl hk
 ·intro h;cases e:l.lt k with
  | true=>rfl
  | false =>
   by_cases zK:l=k
   ·subst zK; obtain ⟨x,h1,_⟩:=h; omega
   ·exact (Au.asymm h (nO hk hl (d6 l k zK e))).elim
theorem le_iff {l k:Lad} (hl:l.Ok B) (hk:k.Ok C) (h:¬ Au l k):l.lt k=false:=by
 cases e:l.lt k with
 | false=>rfl
 | true=>exact (h (nO hl hk e)).elim
theorem ext {l k:Lad} (hl:l.Ok B) (hk:k.Ok C) (h:∀ x,S l x=S k x):l=k:=by
 by_cases e:l=k
 ·exact e
 ·cases zK:l.lt k with
  | true=>obtain ⟨x,h1,_⟩:=nO hl hk zK; have:=h x; omega
  | false=>obtain ⟨x,h1,_⟩:=nO hk hl (d6 l k e zK); have:=h x; omega
theorem wC {bs:List (Lad × Int)} (h:bs.Pairwise (fun a b=>a.1.lt b.1=false)):(jn bs).Pairwise (fun p q=>q.1.lt p.1=true):=by
 have key:∀ (bs acc:List (Lad × Int)),acc.Pairwise (fun p q=>q.1.lt p.1=true)->(∀ a ∈ acc,∀ b ∈ bs,a.1.lt b.1=false)->bs.Pairwise (fun a b=>a.1.lt b.1=false)->(bs.foldl fw acc).Pairwise (fun p q=>q.1.lt p.1=true):=by
  intro bs
  induction bs with
  | nil=>intro acc h _ _; exact h
  | cons p r ih =>
   intro acc h1 h2 h3;obtain ⟨WA,Wz⟩:=List.pairwise_cons.mp h3;refine ih (fw acc p) ?_ ?_ Wz
   ·rcases List.eq_nil_or_concat acc with h | ⟨a,z,h⟩
    ·subst h; rw [yt]; exact List.pairwise_singleton _ _
    ·subst h;rw [List.concat_eq_append] at h1 h2 ⊢;rw [rZ];obtain ⟨a1,_,a3⟩:=List.pairwise_append.mp h1;by_cases hz:z.1=p.1
     ·rw [if_pos hz,List.pairwise_append];refine ⟨a1,List.pairwise_singleton _ _,fun x hx y hy=>?_⟩;have B6:y=(p.1,z.2+p.2):=by simpa using hy
      subst B6;show p.1.lt x.1=true;rw [<- hz]; exact a3 x hx z (by simp)
     ·rw [if_neg hz,List.pairwise_append];refine ⟨h1,List.pairwise_singleton _ _,fun x hx y hy=>?_⟩;have B6:y=p:=by simpa using hy
      subst B6;have Mb:y.1.lt z.1=true:=d6 _ _ hz (h2 z (by simp) y (bw ..));rcases Qw hx with hx | hx
      ·exact lt_trans _ _ _ Mb (a3 x hx z (by simp))
      ·have IZ:x=z:=by simpa using hx
       subst IZ; exact Mb
   ·intro a ha b hb;have vw:=WA b hb;rcases List.eq_nil_or_concat acc with h | ⟨c,z,h⟩
    ·subst h;rw [yt] at ha;have:a=p:=by simpa using ha
     subst this; exact vw
    ·subst h;rw [List.concat_eq_append] at ha h2;rw [rZ] at ha;by_cases hz:z.1=p.1
     ·rw [if_pos hz] at ha;rcases Qw ha with ha | ha
      ·exact h2 a (gR _ ha) b (bI _ hb)
      ·have:a=(p.1,z.2+p.2):=by simpa using ha
       subst this; exact vw
     ·rw [if_neg hz] at ha;rcases Qw ha with ha | ha
      ·exact h2 a ha b (bI _ hb)
      ·have:a=p:=by simpa using ha
       subst this; exact vw
 exact key bs [] List.Pairwise.nil (by simp) h
theorem tM (bs:List (Lad × Int)):(mM bs).Pairwise (fun a b=>a.1.lt b.1=false):=by
 refine (vK bs).imp fun {a b} jH=>?_;rw [UA] at jH;by_cases h:a.1=b.1
 ·rw [h]; exact lt_irrefl _
 ·rw [if_neg h] at jH; exact jH
theorem dz (l k x:Lad):S (cu l k) x=S l x+S k x:=by
 show aG (ofPs (jn (mM (l.ps++k.ps)))).ps x=_;rw [aK,mY,jy (bG _),bB]
theorem vg {l:Lad} (h:l.Ok B) (hB:0<=B) (x:Lad):S l x<=B:=by
 rcases cF h x with h1 | ⟨m,_,h1,h2,h3⟩ <;> omega
theorem gW {l k:Lad} (hl:l.Ok B) (hk:k.Ok C) (hB:1<=B) (hC:1<=C):(cu l k).Ok (B+C):=by
 have hd:(jn (mM (l.ps++k.ps))).Pairwise (fun p q=>q.1.lt p.1=true):=wC (tM _);show (ofPs (jn (mM (l.ps++k.ps)))).Ok (B+C);rw [eF];refine ⟨fun p hp=>?_,hd⟩;have hs:aG (jn (mM (l.ps++k.ps))) p.1=p.2:=by
  have Jf:∀ (bs:List (Lad × Int)),bs.Pairwise (fun p q=>q.1.lt p.1=true)->∀ p ∈ bs,aG bs p.1=p.2:=by
   intro bs
   induction bs with
   | nil=>intro _ p hp; cases hp
   | cons q r ih =>
    intro Vk p hp;obtain ⟨e,m⟩:=q;obtain ⟨h1,h2⟩:=List.pairwise_cons.mp Vk;rw [ay];rcases Qv hp with hp | hp
    ·subst hp;rw [if_pos rfl,dH fun q hq=>dk (h1 q hq)];omega
    ·rw [if_neg (fun z=>dk (h1 p hp) z.symm),ih h2 p hp];omega
  exact Jf _ hd p hp
 have dS:p.2=S l p.1+S k p.1:=by
  rw [<- hs,mY,jy (bG _),bB]
 obtain ⟨q,hq,eq⟩:=EM _ p hp;have rq:=(bG _).mem_iff.mp hq;have n1:=bW hl p.1;have n2:=bW hk p.1;have cZ:S l p.1 < B:=by rcases cF hl p.1 with h1 | ⟨m,_,h1,h2,h3⟩ <;> omega
 have Bb:S k p.1 < C:=by rcases cF hk p.1 with h1 | ⟨m,_,h1,h2,h3⟩ <;> omega
 have grow:∀ (e:Lad),e.Ok B->e.Ok (B+C):=fun e h=>h.mono (by omega);have NH:∀ (e:Lad),e.Ok C->e.Ok (B+C):=fun e h=>h.mono (by omega);rcases Qw rq with wF | wF
 ·have o:=(aV.mp hl).1 q wF;have sm:=iR hl wF;rw [eq] at sm o;exact ⟨grow _ o.1,by omega,by omega⟩
 ·have o:=(aV.mp hk).1 q wF;have sm:=iR hk wF;rw [eq] at sm o;exact ⟨NH _ o.1,by omega,by omega⟩
def wJ (k x:Lad):Bool:=k.ps.all fun p=>!x.lt p.1
theorem wI {k:Lad} (hk:k.Ok B) (x:Lad):wJ k x=true ↔ ∀ y,x.lt y=true->S k y=0:=by
 unfold wJ;rw [List.all_eq_true];constructor
 ·intro h y hy;refine vN fun p hp z=>?_;have:=h p hp;rw [z,hy] at this;cases this
 ·intro h p hp;cases e:x.lt p.1 with
  | false=>rfl
  | true =>
   have h1:=h p.1 e;rw [iR hk hp] at h1;have:=(aV.mp hk).1 p hp;omega
theorem kD {l k:Lad} (hk:k.Ok B) (x:Lad):S (cI l k) x=(if wJ k x=true then S l x else 0)+S k x:=by
 cases k with
 | nil =>
  rw [dC];show S l x=(if wJ .nil x=true then S l x else 0)+aG [] x;rw [bh,if_pos (show wJ .nil x=true from rfl)]; omega
 | cons e m r =>
  have VZ:wJ (.cons e m r) x=!x.lt e:=by
   unfold wJ;show (!x.lt e&&r.ps.all fun p=>!x.lt p.1)=_;cases h:x.lt e with
   | true=>rfl
   | false =>
    have:r.ps.all (fun p=>!x.lt p.1)=true:=by
     rw [List.all_eq_true];intro p hp;rw [le_trans (le_of_lt (hk.2.2.2.2 p hp)) h]; rfl
    rw [this]; rfl
  rw [cM];show aG (ofPs _).ps x=_;rw [aK,bB,ay,VZ];show aG (l.ps.filter fun p=>e.lt p.1) x+((if e=x then aG l.ps e+m else 0)+aG r.ps x)=(if (!x.lt e)=true then aG l.ps x else 0)+aG ((e,m)::r.ps) x;rw [ay];have hf:aG (l.ps.filter fun p=>e.lt p.1) x=if e.lt x=true then aG l.ps x else 0:=by
   unfold aG;rw [List.filter_filter];by_cases h:e.lt x=true
   ·rw [if_pos h]
    congr 2
    refine List.filter_congr fun p hp=>?_;by_cases eY:p.1=x
    ·simp [eY,h]
    ·simp [eY]
   ·rw [if_neg h];have:l.ps.filter (fun p=>decide (p.1=x)&&e.lt p.1)=[]:=by
     rw [List.filter_eq_nil_iff];intro p hp hc;rw [Bool.and_eq_true] at hc;have h1:p.1=x:=Ks hc.1;rw [h1] at hc;exact h hc.2
    rw [this]; rfl
  rw [hf];by_cases hx:e=x
  ·subst hx;rw [lt_irrefl];simp;omega
  ·cases h1:e.lt x with
   | true =>
    rw [lt_asymm h1];simp [hx]
   | false =>
    rw [d6 e x hx h1];simp [hx]
theorem fJ {l k:Lad} (hl:l.Ok B) (hk:k.Ok C) (hB:1<=B) (hC:1<=C):(cI l k).Ok (B+C):=by
 cases k with
 | nil=>rw [dC]; exact hl.mono (by omega)
 | cons e m r =>
  rw [cM,eF];obtain ⟨h1,h2,h3,h4,h5⟩:=hk;obtain ⟨a1,a2⟩:=aV.mp hl;obtain ⟨b1,b2⟩:=aV.mp h4;have n1:=bW hl e;have cZ:S l e < B:=by rcases cF hl e with g1 | ⟨m,_,g1,g2,g3⟩ <;> omega
  constructor
  ·intro p hp;rcases Qw hp with hp | hp
   ·have:=a1 p (List.mem_filter.mp hp).1;exact ⟨this.1.mono (by omega),this.2.1,by omega⟩
   ·rcases Qv hp with hp | hp
    ·subst hp;exact ⟨h1.mono (by omega),by show 1<=S l e+m; omega,by show S l e+m < B+C; omega⟩
    ·have:=b1 p hp;exact ⟨this.1.mono (by omega),this.2.1,by omega⟩
  ·rw [List.pairwise_append,List.pairwise_cons];refine ⟨a2.sublist List.filter_sublist,⟨h5,b2⟩,fun a ha b hb=>?_⟩;have ha':=(List.mem_filter.mp ha).2;rcases Qv hb with hb | hb
   ·subst hb; exact ha'
   ·exact lt_trans _ _ _ (h5 b hb) ha'
theorem vM {a b:Lad} (ha:a.Ok B) (hb:b.Ok C) (hB:1<=B) (hC:1<=C):(cu a b).lt (cI a b)=false:=by
 refine le_iff (gW ha hb hB hC) (fJ ha hb hB hC) ?_
 rintro ⟨x,h1,_⟩
 rw [dz,kD hb] at h1;have:=bW ha x
 split at h1 <;> omega
theorem tO {b c:Lad} (hb:b.Ok B) (hc:c.Ok C) {x:Lad} (h:∀ y,x.lt y=true->S b y=S c y):wJ b x=wJ c x:=by
 rw [Bool.eq_iff_iff,wI hb,wI hc];exact ⟨fun g y hy=>by rw [<- h y hy]; exact g y hy,fun g y hy=>by rw [h y hy]; exact g y hy⟩
theorem tR {a b c:Lad} (ha:a.Ok B) (hb:b.Ok C) (hc:c.Ok D) (hB:1<=B) (hC:1<=C) (hD:1<=D) (h:b.lt c=true):(cI a b).lt (cI a c)=true:=by
 rw [lt_iff (fJ ha hb hB hC) (fJ ha hc hB hD)];obtain ⟨x,h1,h2⟩:=nO hb hc h;refine ⟨x,?_,fun y hy=>?_⟩
 ·rw [kD hb,kD hc,tO hb hc h2]; omega
 ·rw [kD hb,kD hc,tO hb hc (x:=y) (fun z hz=>h2 z (lt_trans _ _ _ hy hz)),h2 y hy]
theorem Ai {a b c:Lad} (ha:a.Ok B) (hb:b.Ok C) (hc:c.Ok D) (hB:1<=B) (hC:1<=C) (hD:1<=D) (h:b.lt c=true):(cu a b).lt (cu a c)=true:=by
 rw [lt_iff (gW ha hb hB hC) (gW ha hc hB hD)];obtain ⟨x,h1,h2⟩:=nO hb hc h;exact ⟨x,by rw [dz,dz]; omega,fun y hy=>by rw [dz,dz,h2 y hy]⟩
theorem iQ (l:Lad) (m:Int) (x:Lad):S (bM l m) x=S l x*m:=by
 unfold bM;by_cases h:m=0
 ·rw [if_pos h,h]; show aG [] x=_; rw [bh,Int.mul_zero]
 ·rw [if_neg h];show aG (ofPs _).ps x=_;rw [aK];exact pG (fun a=>a*m) (Int.zero_mul m) (fun a b=>Int.add_mul a b m) l.ps x
theorem gM {l:Lad} (hl:l.Ok B) (hm:0<=m):(bM l m).Ok (B*m+B):=by
 unfold bM;by_cases h:m=0
 ·rw [if_pos h]; trivial
 ·rw [if_neg h,eF];obtain ⟨a1,a2⟩:=aV.mp hl;constructor
  ·intro p hp;obtain ⟨q,hq,rfl⟩:=Qx hp;obtain ⟨g1,g2,g3⟩:=a1 q hq;have hB:0<=B:=by omega
   have b1:q.2*m<=B*m:=Int.mul_le_mul_of_nonneg_right (by omega) hm;have b2:1*1<=q.2*m:=Int.mul_le_mul g2 (by omega) (by omega) (by omega);have b3:0<=B*m:=Int.mul_nonneg hB hm;exact ⟨g1.mono (by omega),by show 1<=q.2*m; omega,by show q.2*m < B*m+B; omega⟩
  ·rw [List.pairwise_map];exact a2
end
end Lad
section
variable {K:Qn} {H:Hp} {σ:L2.St} {Q:VK} {l k:Lad} {v u:V} {i j:Nat}
theorem eqT (h:l=k):PyData.eqv l.enc k.enc=true:=by rw [Lad.a5]; exact Ya h
theorem neF (h:l=k):(!PyData.eqv l.enc k.enc)=false:=by rw [eqT h]; rfl
end
namespace Lad
section
variable {B C:Int}
def rst:Lad->Lad->Lad
 | .nil,k=>k
 | .cons _ _ _,.nil=>.nil
 | .cons e m r,.cons e' m' r'=>if e=e' then (if m=m' then rst r r' else .cons e (m'-m) r') else .cons e' m' r'
theorem iY (k:Lad):rst .nil k=k:=by unfold rst; rfl
theorem fH (e e':Lad) (m m':Int) (r r':Lad):rst (.cons e m r) (.cons e' m' r')=if e=e' then (if m=m' then rst r r' else .cons e (m'-m) r') else .cons e' m' r':=by rw [rst]
theorem pJ:∀ l k:Lad,(rst l k).parts<=k.parts
 | .nil,k=>by rw [iY]; exact Yc _
 | .cons _ _ _,.nil=>by rw [rst]; exact Yc _
 | .cons e m r,.cons e' m' r'=>by
  rw [fH];have ih:=pJ r r';by_cases he:e=e'
  ·rw [if_pos he];by_cases hm:m=m'
   ·rw [if_pos hm]; show _<=1+e'.parts+r'.parts; omega
   ·rw [if_neg hm,he]; exact Yc _
  ·rw [if_neg he]; exact Yc _
theorem sM:∀ l k:Lad,(rst l k).deep<=k.deep
 | .nil,k=>by rw [iY]; exact Yc _
 | .cons _ _ _,.nil=>by rw [rst]; exact Yc _
 | .cons e m r,.cons e' m' r'=>by
  rw [fH];have ih:=sM r r';by_cases he:e=e'
  ·rw [if_pos he];by_cases hm:m=m'
   ·rw [if_pos hm]; show _<=max (1+e'.deep) r'.deep; omega
   ·rw [if_neg hm,he]; exact Yc _
  ·rw [if_neg he]; exact Yc _
theorem sL:∀ l k:Lad,∀ p ∈ (rst l k).ps,∃ q ∈ k.ps,q.1=p.1
 | .nil,k=>by intro p hp; rw [iY] at hp; exact ⟨p,hp,Ja⟩
 | .cons _ _ _,.nil=>by intro p hp; rw [rst] at hp; cases hp
 | .cons e m r,.cons e' m' r'=>by
  intro p hp;rw [fH] at hp;by_cases he:e=e'
  ·rw [if_pos he] at hp;by_cases hm:m=m'
   ·rw [if_pos hm] at hp;obtain ⟨q,hq,e⟩:=sL r r' p hp;exact ⟨q,bI _ hq,e⟩
   ·rw [if_neg hm] at hp;rcases Qv hp with h | h
    ·subst h; exact ⟨(e',m'),bw ..,he.symm⟩
    ·exact ⟨p,bI _ h,Ja⟩
  ·rw [if_neg he] at hp; exact ⟨p,hp,Ja⟩
theorem iG {e e':Lad} {m':Int} {r r':Lad} (h:Lad.lt (.cons e' m' r') (.cons e m r)=false):(e=e'/\m=m'/\r'.lt r=false)\/(e=e'/\m < m')\/(e ≠ e'/\e.lt e'=true):=by
 rw [dA] at h;by_cases he:e'=e
 ·rw [if_pos he] at h;by_cases hm:m'=m
  ·rw [if_pos hm] at h; exact .inl ⟨he.symm,hm.symm,h⟩
  ·rw [if_neg hm] at h;have:=of_decide_eq_false h;exact .inr (.inl ⟨he.symm,by omega⟩)
 ·rw [if_neg he] at h;exact .inr (.inr ⟨fun z=>he z.symm,d6 _ _ he h⟩)
theorem uY:∀ {l k:Lad},l.Ok B->k.Ok C->k.lt l=false->(rst l k).Ok C
 | .nil,k,_,hk,_=>by rw [iY]; exact hk
 | .cons _ _ _,.nil,_,_,_=>by rw [rst]; trivial
 | .cons e m r,.cons e' m' r',hl,hk,h=>by
  rw [fH];obtain ⟨h1,h2,h3,h4,h5⟩:=hk;rcases iG h with ⟨he,hm,hr⟩ | ⟨he,hm⟩ | ⟨he,_⟩
  ·rw [if_pos he,if_pos hm]; exact uY hl.2.2.2.1 h4 hr
  ·rw [if_pos he,if_neg (by omega)];subst he;have:=hl.2.1;exact ⟨h1,by omega,by omega,h4,h5⟩
  ·rw [if_neg he]; exact ⟨h1,h2,h3,h4,h5⟩
theorem CT {e:Lad} {r x:Lad} (h:∀ p ∈ x.ps,p.1.lt e=true):cI (.cons e m r) x=.cons e m (cI r x):=by
 cases x with
 | nil=>rfl
 | cons e2 m2 r2 =>
  have h2:e2.lt e=true:=h (e2,m2) (bw ..);rw [cM,cM];show ofPs (((e,m)::r.ps).filter (fun p=>e2.lt p.1)++(e2,aG ((e,m)::r.ps) e2+m2)::r2.ps)=_;rw [List.filter_cons,if_pos h2,ay,if_neg (fun z=>dk h2 z.symm),Int.zero_add]
  rfl
theorem rK:∀ {l k:Lad},l.Ok B->k.Ok C->k.lt l=false->cI l (rst l k)=k
 | .nil,k,_,_,_=>by rw [iY,BO]
 | .cons e m r,.nil,_,_,h=>by rw [lt_nil_cons] at h; cases h
 | .cons e m r,.cons e' m' r',hl,hk,h=>by
  rw [fH];obtain ⟨h1,h2,h3,h4,h5⟩:=hk;obtain ⟨g1,g2,g3,g4,g5⟩:=hl;rcases iG h with ⟨he,hm,hr⟩ | ⟨he,hm⟩ | ⟨he,cZ⟩
  ·rw [if_pos he,if_pos hm];subst he; subst hm;rw [CT,rK g4 h4 hr];intro p hp;obtain ⟨q,hq,eq⟩:=sL r r' p hp;rw [<- eq]; exact h5 q hq
  ·rw [if_pos he,if_neg (by omega)];subst he;rw [cM];show ofPs (((e,m)::r.ps).filter (fun p=>e.lt p.1)++(e,aG ((e,m)::r.ps) e+(m'-m))::r'.ps)=_;have hf:((e,m)::r.ps).filter (fun p=>e.lt p.1)=[]:=by
    rw [List.filter_eq_nil_iff];intro p hp;rcases Qv hp with hp | hp
    ·subst hp; rw [lt_irrefl]; exact Bool.false_ne_true
    ·rw [lt_asymm (g5 p hp)]; exact Bool.false_ne_true
   rw [hf,ay,if_pos rfl,dH fun p hp=>dk (g5 p hp)];show cons e (m+0+(m'-m)) (ofPs r'.ps)=_;rw [aE,show m+0+(m'-m)=m' by omega]
  ·rw [if_neg he,cM];show ofPs (((e,m)::r.ps).filter (fun p=>e'.lt p.1)++(e',aG ((e,m)::r.ps) e'+m')::r'.ps)=_;have oq:∀ p ∈ (e,m)::r.ps,p.1.lt e'=true:=by
    intro p hp;rcases Qv hp with hp | hp
    ·subst hp; exact cZ
    ·exact lt_trans _ _ _ (g5 p hp) cZ
   have hf:((e,m)::r.ps).filter (fun p=>e'.lt p.1)=[]:=by
    rw [List.filter_eq_nil_iff];intro p hp;rw [lt_asymm (oq p hp)]; exact Bool.false_ne_true
   rw [hf,dH fun p hp=>dk (oq p hp),Int.zero_add];show cons e' m' (ofPs r'.ps)=_;rw [aE]
theorem nil_le (k:Lad):k ≠ .nil->Lad.lt .nil k=true:=by
 cases k with
 | nil=>intro h; exact absurd rfl h
 | cons e m r=>intro _; exact lt_nil_cons e m r
theorem Aj {l k:Lad} (hl:l.Ok B) (hk:k.Ok C) (hB:1<=B) (hC:1<=C):(cI l k).lt l=false:=by
 by_cases h:k=.nil
 ·subst h; rw [dC]; exact lt_irrefl _
 ·have:=tR (a:=l) (b:=.nil) (c:=k) (C:=1) hl trivial hk hB (by decide) hC (nil_le k h);rw [dC] at this;exact lt_asymm this
theorem yZ {l o:Lad} {p q:Lad × Int} (hp:l.ps[k]?=some p) (hq:o.ps[k]?=some q):rst (ofPs (l.ps.drop k)) (ofPs (o.ps.drop k))=if p.1=q.1 then (if p.2=q.2 then rst (ofPs (l.ps.drop (k+1))) (ofPs (o.ps.drop (k+1))) else .cons p.1 (q.2-p.2) (ofPs (o.ps.drop (k+1)))) else .cons q.1 q.2 (ofPs (o.ps.drop (k+1))):=by
 have h1:k < l.ps.length:=(Kq hp).1;have h2:k < o.ps.length:=(Kq hq).1;have e1:l.ps[k]=p:=(Kq hp).2;have e2:o.ps[k]=q:=(Kq hq).2;rw [List.drop_eq_getElem_cons h1,List.drop_eq_getElem_cons h2,e1,e2];exact fH _ _ _ _ _ _
theorem tL (p q:Lad × Int):PyData.eqv (aC p) (aC q)=(decide (p.1=q.1)&&decide (p.2=q.2)):=by
 simp [aC,PyData.eqv,PyData.eqvAll,Lad.a5,ib]
theorem fM {p:Lad × Int} (h:p.1.deep<=29):SeqAt.shaped (aC p)=true:=by
 have h1:=eL p;have h2:=aA (l:=p.1) (by omega);unfold SeqAt.shaped at h2 ⊢;rw [Bool.and_eq_true] at h2 ⊢;refine ⟨?_,by simp; omega⟩;simp [aC,PyData.canLay0,PyData.canLayAll0,h2.1]
end
end Lad
structure Own (K:Qn) (mg:Str->Option Value) (x:Str) (C:Addr):Prop where
 gC:mg x=some (.ref C)
 q:PySem.W.excIn K C He.veBase "ValueError.__new__"=true
 k:PySem.W.keepIn K (.ref C)=true
 s:PySem.W.subIn K (.ref C) (.type "BaseException")=some true
 t:PySem.W.typeIn K (.ref C)=some (.type "type")
def YI (K:Qn) (C:Addr):Sp:=fun vs H Q E=>∃ (v u:V) (l k:Lad),vs=[v,u]/\LA K H v l/\LA K H u k/\l.deep<=29/\k.deep<=29/\l.parts<=900000/\k.parts<=900000 /\
 (k.lt l=false->∀ (x:V) (H':Hp),SB [] H H'->LA K H' x (l.rst k)->Q x H')/\(k.lt l=true->E (.ref C) none H)
structure GotX (P:Program) (w:World) (K:Qn) (mg:Str->Option Value) (base:Heap) (x:Str) (ps:List Str) (k:Nat) (sp:Sp):Prop where
 ex:∃ (f:Addr) (fd:FuncData),FnOk P w K mg base (L2.CX P w) k f fd ps sp/\PySem.W.keepIn K (.ref f)=true/\Binds K fd ps []/\mg x=some (.ref f)
section
variable {X:Cx} {x:Str} {ps:List Str} {k:Nat} {sp:Sp} {e:Expr} {es:List Expr} {t:TA} {p pos:Pos}
theorem KO (G:GotX X.prog X.w X.K X.mg X.base x ps k sp) (hr:Room k X.A) (hg:Gl X x) (ha:PA X (e::es) t) (zQ:(x == ("__debug__":Str))=false:=by decide) (he:starEach (e::es) X.env=(false,eval e X.env)::starEach es X.env:=by rfl) (ff:(backTo pos (starEach es X.env)).any (·.1)=false:=by rfl) :
  PE X (.Call (.Name x p) (e::es) [] pos) (tCall sp [] E0 t):=by
 obtain ⟨f,fd,h1,h2,h3,h4⟩:=G.ex;exact pe_call h1 hr hg h4 h2 h3 .nil passL ha zQ he ff
theorem pB {W:WX} (G:GotX X.prog X.w X.K X.mg X.base x ps k sp) (hr:Room k X.A) (hg:Gl X x) (tk:Takes X W) (ha:PA X (e::es) t) (zQ:(x == ("__debug__":Str))=false:=by decide) (he:starEach (e::es) X.env=(false,eval e X.env)::starEach es X.env:=by rfl) (ff:(backTo pos (starEach es X.env)).any (·.1)=false:=by rfl) :
  PE X (.Call (.Name x p) (e::es) [] pos) (tCallS sp (WE W) t):=by
 obtain ⟨f,fd,h1,h2,h3,h4⟩:=G.ex;exact pe_callS h1 hr hg h4 h2 h3 (fun σ=>passAt tk σ) ha zQ he ff
end
abbrev PF:Type:=He.AlD × Bool
def R7 (K:Qn) (D:Addr):Bool :=
 He.eqO (PySem.W.findIn K (.ref D) "__getattribute__") (some (some (.builtin "BaseException.__getattribute__")))&&(He.eqO (PySem.W.findIn K (.ref D) "__getattr__") (some none)&&(decide (PySem.W.subIn K (.ref D) (.type "BaseException")=some true)&&(PySem.W.hasDictIn K D&&(He.eqO (PySem.W.findIn K (.ref D) "__class__") (some (some (.builtin "object.__class__"))) &&
 (He.eqO (PySem.W.specialIn K (.builtin "object.__class__") "__get__") (some (some (.builtin "getset_descriptor.__get__")))&&(decide (PySem.W.takesIn K (.builtin "object.__class__")=some true)&&decide (PySem.W.mroIn K D (.type "object")=some true)))))))
theorem zdd {D:Addr} (h:R7 K D=true):ExcC K D:=by
 obtain ⟨h1,h⟩:=He.ba h;obtain ⟨h2,h⟩:=He.ba h;obtain ⟨h3,h⟩:=He.ba h;obtain ⟨h4,h⟩:=He.ba h;obtain ⟨h5,h⟩:=He.ba h;obtain ⟨h6,h⟩:=He.ba h;obtain ⟨h7,h8⟩:=He.ba h;exact ⟨He.eqO_ok h1,He.eqO_ok h2,Ks h3,h4,He.eqO_ok h5,He.eqO_ok h6,Ks h7,Ks h8⟩
section
variable {J:It} {n:Nat} {G:Hp->Prop} {Y:Nat->Hp->V->Hp->Prop}
theorem Fv (w:Walk J n G Y) {H0:Hp} {Qd:Hp->Prop} {body:(Hp->Prop)->V->Hp->Prop} (Pv:Nat->Hp->Prop) (h0:Pv 0 H0) (hG:∀ i H,i<=n->Pv i H->G H)
  (hs:∀ i x H H',i < n->Pv i H->Y i H x H'->body (Pv (i+1)) x H') (hd:∀ H,Pv n H->Qd H) :
  ∃ W:Nat->Nat->Hp->Prop,(∃ m,W 0 m H0)/\∀ i m H,W i m H ->
   (J.stop i H/\Qd H)\/(J.go i H/\∃ Nx:Hp->Prop,(∀ H',Nx H'->∃ m',m' < m/\W (i+1) m' H')/\∀ x H',J.yld i H x H'->body Nx x H'):=by
 refine ⟨fun i m H=>m=n-i/\i<=n/\Pv i H,⟨n,by simp,Nat.zero_le _,h0⟩,?_⟩
 rintro i m H ⟨rfl,hi,p⟩
 have q:=hG i H hi p;by_cases cZ:i < n
 ·exact .inr ⟨w.goes i H cZ q,Pv (i+1),fun H' p'=>⟨n-(i+1),by omega,Ja,cZ,p'⟩,fun x H' y=>hs i x H H' cZ p (w.yields i H x H' cZ q y)⟩
 ·have e:i=n:=by omega
  subst e;exact .inl ⟨w.stops H q,hd H p⟩
end
section
variable {prog:Program} {w:World} {A:Around} {E:Value->Shared->Prop} {s:Shared} {β:Type} {vs:List Value} {bs:List β} {enc:β->PyData} {R:Value->β->Prop}
theorem z9j {kw:List (Str × Value)} {b:Bool} {Q:Value->Shared->Prop} (yi:∀ a,Builtin.«list.sort» ⟨[.ref a],kw⟩=Builtin.«list.sort» ⟨[.ref a],[(Str.ofString "reverse",.bool b)]⟩) (tG:argsOk "sorted" ⟨[.ref t],kw⟩) (yn:∀ x,argsOk "list.sort" ⟨[.ref x],kw⟩)
  (ht:PlainL s.heap t vs.toArray) (e:EachIs R vs bs) (er:EachIs (fun v b=>∃ as,Reads s.heap v (enc b) as) vs bs) (tE:AllAlike (bs.map enc)) (hk:Sortable (bs.map enc)) (hL:bs.length<=sizeLine)
  (hu:∀ b,b ∈ bs->A.units+2+(enc b).depth < cLine)
  (h:∀ (out:List Value) (h' h2:Heap) (n:Nat),(∀ b o,s.heap.get? b=some o->h'.get? b=some o)->(∀ b o,h'.get? b=some o->h2.get? b=some o)->h2.get? h'.objs.size=some (seqObj "list" out.toArray n)->out.length=bs.length->EachIs R out (bs.mergeSort (dataLe b enc))->Q (.ref h'.objs.size) { s with heap:=h2 }) :
  wpAny (model prog w) A (call (.builtin "sorted") [.ref t] kw) Q E s:=by
 have hlen:vs.length<=sizeLine:=by rw [e.length]; exact hL
 obtain ⟨o,n0,ho,hc,_,hd⟩:=id ht;refine call_function_entry_kw kind_sorted plain_sorted entry_sorted tG ?_;unfold Builtin.«sorted»;refine wpAny_bind (m:=checkCount "sorted" 1 1 _) (wpAny_pure ?_);refine Ke (wpAny_collect_seq t (.inl rfl) ho hc hd (fun h' yj=>?_) (by rw [List.size_toArray]; exact hlen));refine Ke (wpAny_newList ?_ hlen);show wpAny _ _ _ _ _ { s with heap:=h'.push (seqObj "list" vs.toArray 0) };have zT:(h'.push (seqObj "list" vs.toArray 0)).get? h'.objs.size=some (seqObj "list" vs.toArray 0):=Heap.get?_push_size _ rfl;refine Ke (wpAny_holding (wpAny_call_entry_kw slot_list_sort ⟨_,zT,Ja⟩ entry_list_sort ?body (yn _)))
 case body =>
  rw [yi];have old:∀ b o,h'.get? b=some o->(sortingHeap (h'.push (seqObj "list" vs.toArray 0)) h'.objs.size vs).get? b=some o:=fun b o q=>sortingHeap_old (Nat.ne_of_lt (Heap.lt_size q)) (Heap.get?_push_of_some _ q);have Er:EachIs (fun v b=>∃ as,Reads (sortingHeap (h'.push (seqObj "list" vs.toArray 0)) h'.objs.size vs) v (enc b) as) vs bs:=er.mono fun _ _ ⟨as,r⟩=>⟨as,PyProof.Rows.Reads.keeps (fun b o q=>old b o (yj b o q)) r⟩;refine list_sort_rev_vals (s:={ s with heap:=h'.push (seqObj "list" vs.toArray 0) }) (κ:=dataKind (sortingHeap (h'.push (seqObj "list" vs.toArray 0)) h'.objs.size vs) (bs.map enc)) zT (SortsAt.data (s:={ s with heap:=sortingHeap (h'.push (seqObj "list" vs.toArray 0)) h'.objs.size vs }) (each_map (R:=fun v d=>∃ as,Reads (sortingHeap (h'.push (seqObj "list" vs.toArray 0)) h'.objs.size vs) v d as) enc Er) tE hk (bound_map hu)) hlen ?_;refine ⟨_,Ja,wpAny_pure ⟨_,Ja,?_⟩⟩;obtain ⟨n2,tA⟩:=sortedHeap_at (out:=(sortVals (dataKind (sortingHeap (h'.push (seqObj "list" vs.toArray 0)) h'.objs.size vs) (bs.map enc)) b vs vs).toArray) zT;refine h _ h' _ n2 yj (fun b o q=>?_) tA (by rw [sortVals_length b rfl]; exact e.length) (sortVals_data b e Er tE);rw [sortedHeap_old (Nat.ne_of_lt (Heap.lt_size q)) (by rw [size_push']; exact Nat.lt_succ_of_lt (Heap.lt_size q))];exact Heap.get?_push_of_some _ q
end
def SI (K:Qn) {β:Type} (enc:β->PyData) (b:Bool) (vs:List V) (H:Hp) (Q:VK):Prop:=∃ (a:Addr) (xs:List V) (bs:List β),vs=[V.ref a]/\SqL K H a xs/\Bears K H enc xs bs/\AllAlike (bs.map enc)/\Sortable (bs.map enc)/\bs.length<=10000000/\(∀ b ∈ bs,(enc b).depth<=100) /\
 ∀ (p:Addr) (ys:List V),H p=none->Bears K H enc ys (bs.mergeSort (dataLe b enc))->Q (.ref p) (upd H p (.lst ys))
section
variable {X:Cx}
theorem z4u {β:Type} {enc:β->PyData} {b:Bool} {kw:List (Str × Value)} (hu:X.A.units+110 < cLine) (yi:∀ a,Builtin.«list.sort» ⟨[.ref a],kw⟩=Builtin.«list.sort» ⟨[.ref a],[(Str.ofString "reverse",.bool b)]⟩) (tG:∀ t,argsOk "sorted" ⟨[.ref t],kw⟩) (yn:∀ x,argsOk "list.sort" ⟨[.ref x],kw⟩)
  {pins:List (Addr × Obj)} {s:Shared} {σ:L2.St} {H:Hp} {vs:List V} {us:List Value} {Q:VK} (I:Inv X pins σ H s) (r:Vals vs us) (h:SI X.K enc b vs H Q):wpAny (model X.prog X.w) X.A (call (.builtin "sorted") us kw) (EP X pins σ Q) X.xe s:=by
 obtain ⟨a,xs,bs,rfl,hs,hb,tE,Mo,hl,hd,q⟩:=h;obtain ⟨bV,rv,Vx,_⟩:=I.list hs;rw [Vals.ref1 r];obtain ⟨e1,e2⟩:=P6 I hb rv;refine z9j (vs:=bV) (bs:=bs) (enc:=enc) (R:=fun u b=>∃ v,RelV v u/\Dp X.K H v (enc b)) yi (tG _) yn Vx e1 e2 tE Mo (by rw [sizeLine_eq]; omega) (fun b m=>by have:=hd b m; omega) fun out h' h2 n k1 k2 zT ho h1=>?_;obtain ⟨ys,g2,g3⟩:=Ss h1;have I':Inv X pins σ H { s with heap:=h' }:=I.kept (t':=s.toks) k1;have hlen:ys.length<=sizeLine:=by rw [g2.length,ho,sizeLine_eq]; omega
 exact ⟨.ref _,upd H h'.objs.size (.lst ys),I'.laid (t':=s.toks) (fun b o e=>k2 b o e) (Yc _) ⟨hlen,out,n,g2,zT⟩,Ja,q _ ys (I'.hok.fresh (Yc _)) g3⟩
theorem zaq {β:Type} (enc:β->PyData) (hu:X.A.units+110 < cLine):CallR X (.builtin "sorted") (SI X.K enc false):=by
 intro pins s σ H vs us Q I r h;exact z4u (kw:=[]) hu plain_is_rev (fun _=>args_sorted1 _) (fun _=>args_list_sort _) I r h
theorem z9k {β:Type} (enc:β->PyData) {b:Bool} (hu:X.A.units+110 < cLine):CallRK X (.builtin "sorted") [Str.ofString "reverse"] (fun vs zs H Q=>zs=[.bl b]/\SI X.K enc b vs H Q):=by
 intro pins s σ H vs zs us ws Q I r rz h;obtain ⟨rfl,h⟩:=h;obtain ⟨w1,rfl,e1⟩:=vals1 rz;obtain rfl:w1=Value.bool b:=e1;exact z4u hu (fun _=>rfl) (fun _=>args_sorted_rev _ _) (fun _=>args_list_sort_rev _ _) I r h
end
namespace Lad
def alh:Lad->Lad->Nat
 | .cons e m r,.cons e' m' r'=>if e=e'/\m=m' then 1+alh r r' else 0
 | _,_=>0
theorem tT (e e':Lad) (m m':Int) (r r':Lad):alh (.cons e m r) (.cons e' m' r')=if e=e'/\m=m' then 1+alh r r' else 0:=by rw [alh]
theorem p9 (k:Lad):alh .nil k=0:=by cases k <;> rfl
theorem p8 (k:Lad):alh k .nil=0:=by cases k <;> rfl
theorem Am {l o:Lad} {p q:Lad × Int} (hp:l.ps[k]?=some p) (hq:o.ps[k]?=some q):alh (ofPs (l.ps.drop k)) (ofPs (o.ps.drop k))=if p.1=q.1/\p.2=q.2 then 1+alh (ofPs (l.ps.drop (k+1))) (ofPs (o.ps.drop (k+1))) else 0:=by
 have h1:k < l.ps.length:=(Kq hp).1;have h2:k < o.ps.length:=(Kq hq).1;have e1:l.ps[k]=p:=(Kq hp).2;have e2:o.ps[k]=q:=(Kq hq).2;rw [List.drop_eq_getElem_cons h1,List.drop_eq_getElem_cons h2,e1,e2];exact tT _ _ _ _ _ _
theorem CV {l o:Lad} (h:¬ (k < l.ps.length/\k < o.ps.length)):alh (ofPs (l.ps.drop k)) (ofPs (o.ps.drop k))=0:=by
 rcases Nat.lt_or_ge k l.ps.length with h1 | h1
 ·rw [List.drop_eq_nil_of_le (show o.ps.length<=k by omega)]; exact p8 _
 ·rw [List.drop_eq_nil_of_le h1]; exact p9 _
theorem tS:∀ l o:Lad,alh l o<=l.ps.length/\alh l o<=o.ps.length/\l.lt o=(ofPs (l.ps.drop (alh l o))).lt (ofPs (o.ps.drop (alh l o)))/\o.lt l=(ofPs (o.ps.drop (alh l o))).lt (ofPs (l.ps.drop (alh l o)))/\rst l o=rst (ofPs (l.ps.drop (alh l o))) (ofPs (o.ps.drop (alh l o)))/\(∀ p q,l.ps[alh l o]?=some p->o.ps[alh l o]?=some q->¬ (p.1=q.1/\p.2=q.2))
 | .nil,o=>by
  rw [p9];refine ⟨Nat.zero_le _,Nat.zero_le _,?_,?_,?_,fun p q h=>by simp [ps] at h⟩
  ·rw [List.drop_zero,List.drop_zero,aE,aE]
  ·rw [List.drop_zero,List.drop_zero,aE,aE]
  ·rw [List.drop_zero,List.drop_zero,aE,aE]
 | .cons e m r,.nil=>by
  rw [p8];refine ⟨Nat.zero_le _,Nat.zero_le _,?_,?_,?_,fun p q _ h=>by simp [ps] at h⟩
  ·rw [List.drop_zero,List.drop_zero,aE,aE]
  ·rw [List.drop_zero,List.drop_zero,aE,aE]
  ·rw [List.drop_zero,List.drop_zero,aE,aE]
 | .cons e m r,.cons e' m' r'=>by
  rw [tT];by_cases h:e=e'/\m=m'
  ·rw [if_pos h];obtain ⟨rfl,rfl⟩:=h;obtain ⟨h1,h2,h3,h4,h5,h6⟩:=tS r r';have d1:(Lad.cons e m r).ps.drop (1+alh r r')=r.ps.drop (alh r r'):=by rw [Nat.add_comm]; rfl
   have d2:(Lad.cons e m r').ps.drop (1+alh r r')=r'.ps.drop (alh r r'):=by rw [Nat.add_comm]; rfl
   rw [d1,d2,<- h3,<- h4,<- h5];refine ⟨?_,?_,?_,?_,?_,?_⟩
   ·show _<=r.ps.length+1; omega
   ·show _<=r'.ps.length+1; omega
   ·rw [dA,if_pos rfl,if_pos rfl]
   ·rw [dA,if_pos rfl,if_pos rfl]
   ·rw [fH,if_pos rfl,if_pos rfl]
   ·rw [Nat.add_comm]; exact h6
  ·rw [if_neg h];refine ⟨Nat.zero_le _,Nat.zero_le _,?_,?_,?_,fun p q hp hq=>?_⟩
   ·rw [List.drop_zero,List.drop_zero,aE,aE]
   ·rw [List.drop_zero,List.drop_zero,aE,aE]
   ·rw [List.drop_zero,List.drop_zero,aE,aE]
   ·have e1:(e,m)=p:=Yd hp;have e2:(e',m')=q:=Yd hq;rw [<- e1,<- e2]; exact h
def aZ (ls:List Lad):Lad:=ofPs (jn (mM (ls.flatMap ps)))
theorem Ah (l k:Lad):aZ [l,k]=cu l k:=by simp [aZ,cu,List.flatMap]
end Lad
def Zl (K:Qn):Sp:=fun vs H Q _=>∃ (v u:V) (l k:Lad),vs=[v,u]/\LA K H v l/\LA K H u k/\l.deep<=29/\k.deep<=29/\l.parts<=1000000/\k.parts<=1000000/\Q (.int (Lad.alh l k:Nat)) H
def Sy (K:Qn):Sp:=fun vs H Q _=>∃ (v:V) (l:Lad),vs=[v]/\LA K H v l/\∀ (x:V) (H':Hp),SB [] H H'->LA K H' x (.cons l 1 .nil)->Q x H'
def PX (K:Qn):Sp:=fun vs H Q _=>∃ (a:Addr) (xs:List V) (ls:List Lad),vs=[.ref a]/\SqL K H a xs/\Bears K H Lad.enc xs ls/\(∀ l ∈ ls,l.deep<=30)/\(ls.flatMap Lad.ps).length<=1900000/\∀ (x:V) (H':Hp),SB [] H H'->LA K H' x (Lad.aZ ls)->Q x H'
namespace Lad
section
variable {B C D:Int}
abbrev b9:Lad:=.cons .nil 1 .nil
theorem wq:Lad.num 1=b9:=if_neg (by decide)
theorem fE:b9.Ok 2:=⟨trivial,by decide,by decide,trivial,by simp [ps]⟩
theorem l8 (e x:Lad):S (.cons e 1 .nil) x=if e=x then 1 else 0:=by
 show aG ((e,1)::[]) x=_;rw [ay,bh,Int.add_zero]
theorem l9 (e x:Lad):S (cI e b9) x=S e x+if Lad.nil=x then 1 else 0:=by
 rw [kD fE,l8];have:wJ b9 x=true:=by simp [wJ,ps,cL]
 rw [if_pos this]
theorem yJ {e:Lad} (he:e.Ok B) (hB:1<=B):e.lt (cI e b9)=true:=by
 rw [lt_iff he (fJ he fE hB (by decide))];refine ⟨.nil,?_,fun y hy=>?_⟩
 ·rw [l9,if_pos rfl]; omega
 ·rw [l9,if_neg (dk hy),Int.add_zero]
theorem kZ {e y:Lad} (he:e.Ok B) (hy:y.Ok C) (hB:1<=B) (h:e.lt y=true):cI e b9=y\/(cI e b9).lt y=true:=by
 have ho:=fJ he fE hB (by decide);obtain ⟨x,hx,Rr⟩:=(lt_iff he hy).mp h;by_cases hn:x=.nil
 ·subst hn;have hz:∀ z,Lad.nil ≠ z->S e z=S y z:=fun z hz=>Rr z (nil_le z fun q=>hz q.symm);by_cases hq:S e .nil+1=S y .nil
  ·left
   refine ext ho hy fun z=>?_;rw [l9];by_cases z0:Lad.nil=z
   ·subst z0; rw [if_pos rfl]; exact hq
   ·rw [if_neg z0,Int.add_zero]; exact hz z z0
  ·right
   rw [lt_iff ho hy];refine ⟨.nil,?_,fun z Rp=>?_⟩
   ·rw [l9,if_pos rfl]; omega
   ·rw [l9,if_neg (dk Rp),Int.add_zero]; exact hz z (dk Rp)
 ·right
  rw [lt_iff ho hy];refine ⟨x,?_,fun z hz=>?_⟩
  ·rw [l9,if_neg (fun h=>hn h.symm),Int.add_zero]; exact hx
  ·have:Lad.nil ≠ z:=fun h=>by subst h; rw [cL] at hz; cases hz
   rw [l9,if_neg this,Int.add_zero]; exact Rr z hz
theorem jZ (e x:Lad):∀ bs:List (Lad × Int),aG (bs.filter fun p=>e.lt p.1) x=if e.lt x=true then aG bs x else 0
 | []=>by simp [bh]
 | (a,m)::r=>by
  have ih:=jZ e x r;rw [List.filter_cons];by_cases h:e.lt a=true
  ·rw [if_pos h,ay,ay,ih];by_cases hx:e.lt x=true
   ·rw [if_pos hx,if_pos hx]
   ·have:a ≠ x:=fun z=>hx (z ▸ h);rw [if_neg hx,if_neg hx,if_neg this]; rfl
  ·rw [if_neg h,ih,ay];by_cases hx:e.lt x=true
   ·have:a ≠ x:=fun z=>h (z ▸ hx);rw [if_pos hx,if_pos hx,if_neg this,Int.zero_add]
   ·rw [if_neg hx,if_neg hx]
theorem pY {l:Lad} (h:l.Ok B) (g:Lad × Int->Bool):(ofPs (l.ps.filter g)).Ok B:=by
 have:=aV.mp h;rw [eF];exact ⟨fun p hp=>this.1 p (List.mem_filter.mp hp).1,this.2.filter _⟩
theorem gU (l:Lad) (g:Lad × Int->Bool):(ofPs (l.ps.filter g)).parts<=l.parts:=by
 have h:=jx g l.ps;rw [aP];have h2:tot l.ps=l.parts:=by rw [<- aP,aE]
 omega
theorem iM {l:Lad} (g:Lad × Int->Bool) (h:l.deep<=n):(ofPs (l.ps.filter g)).deep<=n :=
 eQ fun b hb=>Nat.lt_of_lt_of_le (av l b (List.mem_filter.mp hb).1) h
def oO (l:Lad):Lad->Lad
 | .nil=>cu l b9
 | .cons e _ _=>cu (ofPs (l.ps.filter fun p=>e.lt p.1)) (.cons (cI e b9) 1 .nil)
theorem ze {e:Lad} (h:e.Ok B) (hB:2<=B):(Lad.cons e 1 .nil).Ok B:=⟨h,by decide,by omega,trivial,by simp [ps]⟩
theorem rM {l k:Lad} (hl:l.Ok B) (hk:k.Ok C) (hB:1<=B) (hC:1<=C):(oO l k).Ok (B+(C+2)):=by
 cases k with
 | nil=>exact (gW hl fE hB (by decide)).mono (by omega)
 | cons e m r=>exact gW (pY hl _) (ze (fJ hk.1 fE hC (by decide)) (by omega)) hB (by omega)
theorem xY (l k:Lad):(oO l k).parts<=l.parts+k.parts+2:=by
 cases k with
 | nil=>have:=p5 l b9; show (cu l b9).parts<=_; have h1:b9.parts=1:=rfl; omega
 | cons e m r =>
  have h1:=p5 (ofPs (l.ps.filter fun p=>e.lt p.1)) (.cons (cI e b9) 1 .nil);have h2:=gU l fun p=>e.lt p.1;have h3:=fC e b9;have h4:(Lad.cons (cI e b9) 1 .nil).parts=1+(cI e b9).parts+0:=rfl;have h5:(Lad.cons e m r).parts=1+e.parts+r.parts:=rfl;have h6:b9.parts=1:=rfl;show (cu _ _).parts<=_;omega
theorem kB {l k:Lad} (hl:l.deep<=n) (hk:k.deep<=n) (hn:2<=n):(oO l k).deep<=n:=by
 cases k with
 | nil=>exact tP hl (by show 1<=n; omega)
 | cons e m r =>
  refine tP (iM _ hl) ?_;have h1:1+e.deep<=n:=Yb (Nat.le_max_left _ _) hk;have h2:=eV (n:=n-1) (l:=e) (k:=b9) (by omega) (by show 1<=n-1; omega);show max (1+(cI e b9).deep) 0<=n;omega
theorem qd (l e:Lad) (m:Int) (r x:Lad):S (oO l (.cons e m r)) x=(if e.lt x=true then S l x else 0)+if cI e b9=x then 1 else 0:=by
 show S (cu _ _) x=_;rw [dz,l8];show aG (ofPs _).ps x+_=_;rw [aK,jZ]
theorem Ag {l k:Lad} {n:Int} (hl:l.Ok B) (hk:k.Ok C) (hB:1<=B) (hC:1<=C) (hn:0<=n):(cu l (bM k n)).Ok (B+(C*n+C)):=by
 have:0<=C*n:=Int.mul_nonneg (by omega) hn;exact gW hl (gM hk hn) hB (by omega)
theorem qc (l k x:Lad) (n:Int):S (cu l (bM k n)) x=S l x+S k x*n:=by rw [dz,iQ]
theorem Hu {l k:Lad} {n:Int} (hl:l.Ok B) (hk:k.Ok C) (hB:1<=B) (hC:1<=C) (hn:0<=n):(cu l (bM k n)).lt (oO l k)=true:=by
 rw [lt_iff (Ag hl hk hB hC hn) (rM hl hk hB hC)];cases k with
 | nil =>
  have e0:∀ x,S Lad.nil x=0:=fun x=>rfl;refine ⟨.nil,?_,fun y hy=>?_⟩
  ·rw [qc];show _ < S (cu l b9) .nil;rw [dz,l8,if_pos rfl,e0,Int.zero_mul]; omega
  ·rw [qc];show _=S (cu l b9) y;rw [dz,l8,if_neg (dk hy),e0,Int.zero_mul]
 | cons e m r =>
  have Cq:=yJ hk.1 hC;refine ⟨cI e b9,?_,fun y hy=>?_⟩
  ·rw [qc,qd,if_pos Cq,if_pos rfl,fz hk Cq,Int.zero_mul]; omega
  ·have B5:=lt_trans _ _ _ Cq hy;rw [qc,qd,if_pos B5,if_neg (dk hy),fz hk B5,Int.zero_mul]
def CO:Lad->Lad->Int
 | .nil,_=>0
 | .cons e _ _,t=>1+S t e
theorem oD {k t:Lad} (ht:t.Ok D):0<=CO k t:=by
 cases k with
 | nil=>exact Kw _
 | cons e m r=>have:=bW ht e; show 0<=1+S t e; omega
theorem xZ {l k t:Lad} (hl:l.Ok B) (hk:k.Ok C) (ht:t.Ok D) (hB:1<=B) (hC:1<=C) (h:t.lt (oO l k)=true):(cu l (bM k (CO k t))).lt t=false:=by
 cases k with
 | nil =>
  rw [show CO .nil t=0 from rfl,show bM .nil 0=.nil from if_pos rfl,mN hl];cases cZ:l.lt t with
  | false=>rfl
  | true =>
   exfalso
   have e:oO l .nil=cI l b9:=ext (gW hl fE hB (by decide)) (fJ hl fE hB (by decide)) fun x=>by
    show S (cu l b9) x=_;rw [dz,l9,l8]
   rw [e] at h;rcases kZ hl ht hB cZ with h1 | h1
   ·rw [h1,lt_irrefl] at h; cases h
   ·rw [lt_asymm h1] at h; cases h
 | cons e m r =>
  have he:e.Ok C:=hk.1;have hN:=oD (k:=.cons e m r) ht;have hU:=Ag (n:=CO (.cons e m r) t) hl hk hB hC hN;have Cq:e.lt (cI e b9)=true:=yJ he hC;have Ua:∀ y,e.lt y=true->S (cu l (bM (.cons e m r) (CO (.cons e m r) t))) y=S l y:=fun y hy=>by
   rw [qc,fz hk hy,Int.zero_mul,Int.add_zero]
  refine le_iff hU ht fun cZ=>?_;obtain ⟨x,hx,Rr⟩:=(lt_iff ht (rM hl hk hB hC)).mp h;have TB:∀ y,(x=y\/x.lt y=true)->(cI e b9).lt y=true->x.lt y=true->S t y=S (cu l (bM (.cons e m r) (CO (.cons e m r) t))) y:=fun y _ hsy Rq=>by
   have h2:=lt_trans _ _ _ Cq hsy;rw [Rr y Rq,qd,if_pos h2,if_neg (dk hsy),Int.add_zero,Ua y h2]
  by_cases DD:cI e b9=x
  ·subst DD;rw [qd,if_pos Cq,if_pos rfl] at hx;by_cases hq:S t (cI e b9) < S l (cI e b9)
   ·exact Au.asymm cZ ⟨cI e b9,by rw [Ua _ Cq]; exact hq,fun y hy=>TB y (.inr hy) hy hy⟩
   ·refine Au.asymm cZ ⟨e,?_,fun y hy=>?_⟩
    ·rw [qc,qb hk];have h1:=bW hl e;have h2:=bW ht e;have h3:=hk.2.1;show S t e < S l e+m*(1+S t e);have h4:1*(1+S t e)<=m*(1+S t e):=Int.mul_le_mul_of_nonneg_right h3 (by omega);omega
    ·by_cases hys:cI e b9=y
     ·subst hys;rw [Ua _ Cq]; omega
     ·have okc:(∃ E,y.Ok E)->S t y=S (cu l (bM (.cons e m r) (CO (.cons e m r) t))) y:=fun ⟨E,hyo⟩=>by
       rcases kZ he hyo hC hy with h1 | h1
       ·exact absurd h1 hys
       ·exact TB y (.inr h1) h1 h1
      rcases cF ht y with ⟨z,_⟩ | ⟨mm,hm,_⟩
      ·rcases cF hl y with ⟨z2,_⟩ | ⟨mm,hm,_⟩
       ·rw [Ua y hy,z,z2]
       ·exact okc ⟨_,((aV.mp hl).1 _ hm).1⟩
      ·exact okc ⟨_,((aV.mp ht).1 _ hm).1⟩
  ·by_cases rS:(cI e b9).lt x=true
   ·have hex:=lt_trans _ _ _ Cq rS;rw [qd,if_pos hex,if_neg DD,Int.add_zero] at hx;exact Au.asymm cZ ⟨x,by rw [Ua x hex]; exact hx,fun y hy=>TB y (.inr hy) (lt_trans _ _ _ rS hy) hy⟩
   ·have hx0:=bW ht x;rw [qd,if_neg DD,Int.add_zero] at hx;by_cases hex:e.lt x=true
    ·rw [if_pos hex] at hx;rcases cF hl x with ⟨z,_⟩ | ⟨mm,hm,_⟩
     ·omega
     ·rcases kZ he ((aV.mp hl).1 _ hm).1 hC hex with h1 | h1
      ·exact DD h1
      ·exact rS h1
    ·rw [if_neg hex] at hx; omega
def spd:Lad->Lad->Lad
 | .cons e m r,.nil=>.cons e m r
 | .nil,.nil=>.nil
 | .nil,k=>k
 | .cons e _ _,k=>.cons (cI e k) 1 .nil
end
end Lad
def Zx (K:Qn):Sp:=fun vs H Q _=>∃ (v u:V) (e:Lad) (m:Int) (r k:Lad),vs=[v,u]/\LA K H v (.cons e m r)/\LA K H u k/\(Lad.cons e m r).deep<=30/\k.deep<=30/\(Lad.cons e m r).parts<=900000/\k.parts<=900000/\∀ (x:V) (H':Hp),SB [] H H'->LA K H' x (Lad.spd (.cons e m r) k)->Q x H'
def Zv (K:Qn):Sp:=fun vs H Q _=>∃ (v u:V) (l k:Lad),vs=[v,u]/\LA K H v l/\LA K H u k/\l.deep<=29/\k.deep<=29/\l.parts<=390000/\k.parts<=390000/\∀ (x:V) (H':Hp),SB [] H H'->LA K H' x (l.oO k)->Q x H'
theorem ET (x:PyData):dataLt x x=false:=lex_irrefl (O:=itemOrd) _
theorem Qq {x y z:PyData} (h:dataLt x y=true) (h2:dataLt y z=true):dataLt x z=true:=lex_trans (O:=itemOrd) _ _ _ h h2
theorem zdb {x y:PyData} (al:alike x y=true) (h:dataLt x y=false) (h2:dataLt y x=false):PyData.eqv x y=true:=by
 have e:keyToks x=keyToks y:=lex_total (O:=itemOrd) _ _ h h2;cases hq:PyData.eqv x y with
 | true=>rfl
 | false =>
  have t:=(toks_eqv x y al).2 hq [.inl 0] [.inl 1];rw [e] at t;have t2:PyProof.Rows.lexLt itemOrd (keyToks y++[.inl 0]) (keyToks y++[.inl 1])=PyProof.Rows.lexLt itemOrd [.inl 0] [.inl 1]:=lex_pre _ _ _;have t3:PyProof.Rows.lexLt itemOrd (keyToks y) (keyToks y)=false:=lex_irrefl (O:=itemOrd) _;rw [t2,t3,lex_one] at t
  revert t
  decide
theorem Qk {x y:PyData} (h:dataLt x y=true):dataLt y x=false:=by
 cases e:dataLt y x with
 | false=>rfl
 | true=>have:=Qq h e; rw [ET] at this; cases this
class Orderly {γ:Type} [DecidableEq γ] (enc:γ->PyData):Prop where
 al:∀ a b,alike (enc a) (enc b)=true
 eq:∀ a b,PyData.eqv (enc a) (enc b)=decide (a=b)
section
variable {γ:Type} [DecidableEq γ] {enc:γ->PyData} [O:Orderly enc]
theorem PV {a b:γ} (vz:a ≠ b) (h:dataLt (enc a) (enc b)=false):dataLt (enc b) (enc a)=true:=by
 cases e:dataLt (enc b) (enc a) with
 | true=>rfl
 | false =>
  have:=zdb (O.al a b) h e;rw [O.eq] at this;exact absurd (Ks this) vz
theorem YE {a b:γ} (h:dataLt (enc a) (enc b)=true):a ≠ b:=fun z=>by subst z; rw [ET] at h; cases h
instance:Orderly (mS enc) where
 al a b:=by simp [mS,alike,alikeAll,O.al a.1 b.1]
 eq a b:=by
  simp only [mS,PyData.eqv,PyData.eqvAll,O.eq,Bool.and_true,ib];by_cases h:a=b
  ·subst h; simp
  ·rw [Qz h];rw [Bool.and_eq_false_iff];by_cases h1:a.1=b.1
   ·exact .inr (Qz fun h2=>h (Prod.ext h1 h2))
   ·exact .inl (Qz h1)
theorem zd7 (p q:γ × Int):dataLt (mS enc p) (mS enc q)=if p.1=q.1 then decide (p.2 < q.2) else dataLt (enc p.1) (enc q.1):=by
 unfold mS;rw [dataLt_pair (O.al p.1 q.1) (by simp [alike]),O.eq];by_cases h:p.1=q.1
 ·rw [if_pos (by simp [h]),if_pos h,dataLt_int];by_cases h2:p.2=q.2
  ·simp [PyData.eqv,h2]
  ·simp [PyData.eqv,h2]
 ·rw [if_neg (by simp [h]),if_neg h]
def sD (enc:γ->PyData) (bs:List γ):List γ:=bs.mergeSort (dataLe false enc)
theorem ER (bs:List γ):(sD enc bs).Perm bs:=List.mergeSort_perm _ _
theorem zed (bs:List γ):(sD enc bs).Pairwise (fun a b=>dataLt (enc b) (enc a)=false):=by
 have h:=List.pairwise_mergeSort (le:=dataLe false enc) (fun a b c h1 h2=>?_) (fun a b=>?_) bs
 ·refine h.imp fun {a b} jH=>?_;rw [dataLe_eq] at jH;simpa using jH
 ·rw [dataLe_eq] at h1 h2 ⊢;simp only [cond_false,Bool.not_eq_true'] at h1 h2 ⊢;by_cases jH:a=b
  ·subst jH; exact h2
  ·by_cases DQ:b=c
   ·subst DQ; exact h1
   ·exact Qk (Qq (PV (fun z=>jH z.symm) h1) (PV (fun z=>DQ z.symm) h2))
 ·rw [dataLe_eq];simp only [cond_false];cases e:dataLt (enc b) (enc a) with
  | false=>rfl
  | true=>rw [Qk e]; rfl
def sumE (ps:List (γ × Int)) (x:γ):Int:=match ps with
 | []=>0
 | p::r=>(if p.1=x then p.2 else 0)+sumE r x
theorem wV (x:γ):∀ (as bs:List (γ × Int)),sumE (as++bs) x=sumE as x+sumE bs x
 | [],bs=>by simp [sumE]
 | p::r,bs=>by show _+sumE (r++bs) x=_; rw [wV x r bs,sumE]; omega
theorem zbj {as bs:List (γ × Int)} (h:as.Perm bs) (x:γ):sumE as x=sumE bs x:=by
 induction h with
 | nil=>rfl
 | cons y _ ih=>simp only [sumE]; omega
 | swap y z l=>simp only [sumE]; omega
 | trans _ _ h1 h2=>omega
theorem zav (acc:List (γ × Int)) (p:γ × Int) (x:γ):sumE (fw acc p) x=sumE acc x+(if p.1=x then p.2 else 0):=by
 rcases List.eq_nil_or_concat acc with h | ⟨a,z,h⟩
 ·subst h; rw [yt]; simp [sumE]
 ·subst h;rw [List.concat_eq_append,rZ];by_cases hz:z.1=p.1
  ·rw [if_pos hz,wV,wV];simp only [sumE,hz];by_cases hx:p.1=x
   ·simp only [if_pos hx]; omega
   ·simp only [if_neg hx]; omega
  ·rw [if_neg hz,wV]; simp only [sumE]; omega
theorem zew (bs:List (γ × Int)) (x:γ):sumE (jn bs) x=sumE bs x:=by
 have key:∀ (bs acc:List (γ × Int)),sumE (bs.foldl fw acc) x=sumE acc x+sumE bs x:=by
  intro bs
  induction bs with
  | nil=>intro acc; simp [sumE]
  | cons p r ih =>
   intro acc;show sumE (r.foldl fw (fw acc p)) x=_;rw [ih,zav,sumE]; omega
 have:=key bs [];simpa [jn,sumE] using this
theorem zep {bs:List (γ × Int)} (h:bs.Pairwise (fun a b=>dataLt (enc b.1) (enc a.1)=false)):(jn bs).Pairwise (fun p q=>dataLt (enc p.1) (enc q.1)=true):=by
 have key:∀ (bs acc:List (γ × Int)),acc.Pairwise (fun p q=>dataLt (enc p.1) (enc q.1)=true)->(∀ a ∈ acc,∀ b ∈ bs,dataLt (enc b.1) (enc a.1)=false)->bs.Pairwise (fun a b=>dataLt (enc b.1) (enc a.1)=false)->(bs.foldl fw acc).Pairwise (fun p q=>dataLt (enc p.1) (enc q.1)=true):=by
  intro bs
  induction bs with
  | nil=>intro acc h _ _; exact h
  | cons p r ih =>
   intro acc h1 h2 h3;obtain ⟨WA,Wz⟩:=List.pairwise_cons.mp h3;refine ih (fw acc p) ?_ ?_ Wz
   ·rcases List.eq_nil_or_concat acc with h | ⟨a,z,h⟩
    ·subst h; rw [yt]; exact List.pairwise_singleton _ _
    ·subst h;rw [List.concat_eq_append] at h1 h2 ⊢;rw [rZ];obtain ⟨a1,_,a3⟩:=List.pairwise_append.mp h1;by_cases hz:z.1=p.1
     ·rw [if_pos hz,List.pairwise_append];refine ⟨a1,List.pairwise_singleton _ _,fun x hx y hy=>?_⟩;have B6:y=(p.1,z.2+p.2):=by simpa using hy
      subst B6;show dataLt (enc x.1) (enc p.1)=true;rw [<- hz]; exact a3 x hx z (by simp)
     ·rw [if_neg hz,List.pairwise_append];refine ⟨h1,List.pairwise_singleton _ _,fun x hx y hy=>?_⟩;have B6:y=p:=by simpa using hy
      subst B6;have Mb:dataLt (enc z.1) (enc y.1)=true:=PV (fun q=>hz q.symm) (h2 z (by simp) y (bw ..));rcases Qw hx with hx | hx
      ·exact Qq (a3 x hx z (by simp)) Mb
      ·have IZ:x=z:=by simpa using hx
       subst IZ; exact Mb
   ·intro a ha b hb;have vw:=WA b hb;rcases List.eq_nil_or_concat acc with h | ⟨c,z,h⟩
    ·subst h;rw [yt] at ha;have:a=p:=by simpa using ha
     subst this; exact vw
    ·subst h;rw [List.concat_eq_append] at ha h2;rw [rZ] at ha;by_cases hz:z.1=p.1
     ·rw [if_pos hz] at ha;rcases Qw ha with ha | ha
      ·exact h2 a (gR _ ha) b (bI _ hb)
      ·have:a=(p.1,z.2+p.2):=by simpa using ha
       subst this; exact vw
     ·rw [if_neg hz] at ha;rcases Qw ha with ha | ha
      ·exact h2 a ha b (bI _ hb)
      ·have:a=p:=by simpa using ha
       subst this; exact vw
 exact key bs [] List.Pairwise.nil (by simp) h
theorem zd5 (bs:List (γ × Int)):(sD (mS enc) bs).Pairwise (fun a b=>dataLt (enc b.1) (enc a.1)=false):=by
 refine (zed (enc:=mS enc) bs).imp fun {a b} jH=>?_;rw [zd7] at jH;by_cases h:b.1=a.1
 ·rw [h]; exact ET _
 ·rw [if_neg h] at jH; exact jH
def rR (enc:γ->PyData) (bs:List (γ × Int)):List (γ × Int):=jn (sD (mS enc) bs)
theorem ZW (bs:List (γ × Int)):(rR enc bs).Pairwise (fun p q=>dataLt (enc p.1) (enc q.1)=true):=zep (zd5 bs)
theorem Iz (bs:List (γ × Int)) (x:γ):sumE (rR enc bs) x=sumE bs x:=by
 unfold rR;rw [zew,zbj (ER bs)]
theorem IE (bs:List (γ × Int)):∀ p ∈ rR enc bs,∃ q ∈ bs,q.1=p.1:=fun p hp=>by
 obtain ⟨q,hq,e⟩:=EM _ p hp;exact ⟨q,(ER bs).mem_iff.mp hq,e⟩
def cE:List (γ × Int)->Int
 | []=>0
 | p::r=>p.2+cE r
theorem Lf:∀ as bs:List (γ × Int),cE (as++bs)=cE as+cE bs
 | [],bs=>by simp [cE]
 | p::r,bs=>by show _+cE (r++bs)=_; rw [Lf r bs,cE]; omega
theorem zbv {as bs:List (γ × Int)} (h:as.Perm bs):cE as=cE bs:=by
 induction h with
 | nil=>rfl
 | cons y _ ih=>simp only [cE]; omega
 | swap y z l=>simp only [cE]; omega
 | trans _ _ h1 h2=>omega
theorem zfc (bs:List (γ × Int)):cE (jn bs)=cE bs:=by
 have key:∀ (bs acc:List (γ × Int)),cE (bs.foldl fw acc)=cE acc+cE bs:=by
  intro bs
  induction bs with
  | nil=>intro acc; simp [cE]
  | cons p r ih =>
   intro acc;show cE (r.foldl fw (fw acc p))=_;rw [ih];have e:cE (fw acc p)=cE acc+p.2:=by
    rcases List.eq_nil_or_concat acc with h | ⟨a,z,h⟩
    ·subst h; rw [yt]; simp [cE]
    ·subst h;rw [List.concat_eq_append,rZ]
     split
     ·rw [Lf,Lf]; simp only [cE]; omega
     ·rw [Lf]; simp only [cE]; omega
   rw [e,cE]; omega
 have:=key bs [];simpa [jn,cE] using this
theorem zhi {bs:List (γ × Int)} (h:∀ p ∈ bs,1<=p.2):∀ p ∈ jn bs,1<=p.2:=by
 have key:∀ (bs acc:List (γ × Int)),(∀ p ∈ acc,1<=p.2)->(∀ p ∈ bs,1<=p.2)->∀ p ∈ bs.foldl fw acc,1<=p.2:=by
  intro bs
  induction bs with
  | nil=>intro acc h _; exact h
  | cons p r ih =>
   intro acc h1 h2;refine ih (fw acc p) (fun q hq=>?_) fun q hq=>h2 q (bI _ hq);have hp:=h2 p (bw ..);rcases List.eq_nil_or_concat acc with h | ⟨a,z,h⟩
   ·subst h;rw [yt] at hq;have:q=p:=by simpa using hq
    subst this; exact hp
   ·subst h;rw [List.concat_eq_append] at h1 hq;rw [rZ] at hq;have hz:=h1 z (by simp);by_cases e:z.1=p.1
    ·rw [if_pos e] at hq;rcases Qw hq with hq | hq
     ·exact h1 q (gR _ hq)
     ·have:q=(p.1,z.2+p.2):=by simpa using hq
      subst this; show 1<=z.2+p.2; omega
    ·rw [if_neg e] at hq;rcases Qw hq with hq | hq
     ·exact h1 q hq
     ·have:q=p:=by simpa using hq
      subst this; exact hp
 exact key bs [] (by simp) h
theorem zhd {bs:List (γ × Int)} (h:∀ p ∈ bs,1<=p.2):∀ p ∈ bs,p.2<=cE bs:=by
 induction bs with
 | nil=>intro p hp; cases hp
 | cons a r ih =>
  intro p hp;have hr:0<=cE r:=by
   clear ih hp;have:∀ p ∈ r,1<=p.2:=fun p hp=>h p (bI _ hp);clear h
   induction r with
   | nil=>exact Kw _
   | cons b r ih2 =>
    have h1:=this b (bw ..);have h2:=ih2 fun p hp=>this p (bI _ hp);show 0<=b.2+cE r; omega
  have ha:=h a (bw ..);rcases Qv hp with hp | hp
  ·subst hp; show p.2<=p.2+cE r; omega
  ·have:=ih (fun p hp=>h p (bI _ hp)) p hp;show p.2<=a.2+cE r; omega
theorem Zj {bs:List (γ × Int)} (h:∀ p ∈ bs,1<=p.2):∀ p ∈ rR enc bs,1<=p.2/\p.2<=cE bs:=fun p hp=>by
 have h0:∀ p ∈ sD (mS enc) bs,1<=p.2:=fun p hp=>h p ((ER bs).mem_iff.mp hp);have h1:=zhi h0;refine ⟨h1 p hp,?_⟩;have h2:=zhd h1 p hp;rw [zfc,zbv (ER bs)] at h2;exact h2
end
inductive Gr where
 | nil
 | cons (k:Str) (g:Gr) (m:Int) (r:Gr)
 deriving DecidableEq
abbrev Tr:=Str × Gr
def dN (k:Str):Prop:=1<=k.cps.toList.length/\k.cps.toList.length<=8/\∀ c ∈ k.cps.toList,97<=c/\c<=122
namespace Gr
def encs:Gr->List PyData
 | .nil=>[]
 | .cons k g m r=>.tuple [.tuple [.str k,.tuple g.encs],.int m]::r.encs
def enc (g:Gr):PyData:=.tuple g.encs
def aO (t:Tr):PyData:=.tuple [.str t.1,t.2.enc]
abbrev aC:Tr × Int->PyData:=mS aO
def ps:Gr->List (Tr × Int)
 | .nil=>[]
 | .cons k g m r=>((k,g),m)::r.ps
def ofPs:List (Tr × Int)->Gr
 | []=>.nil
 | p::r=>.cons p.1.1 p.1.2 p.2 (ofPs r)
theorem aE:∀ g:Gr,ofPs g.ps=g
 | .nil=>rfl
 | .cons k g m r=>by show Gr.cons k g m (ofPs r.ps)=_; rw [aE r]
theorem aK:∀ bs:List (Tr × Int),(ofPs bs).ps=bs
 | []=>rfl
 | p::r=>by show ((p.1.1,p.1.2),p.2)::(ofPs r).ps=_; rw [aK r]
theorem d9:∀ g:Gr,g.encs=g.ps.map aC
 | .nil=>rfl
 | .cons k g m r=>by show _::r.encs=_::r.ps.map aC; rw [d9 r]; rfl
def parts:Gr->Nat
 | .nil=>0
 | .cons _ g _ r=>1+g.parts+r.parts
def deep:Gr->Nat
 | .nil=>0
 | .cons _ g _ r=>max (1+g.deep) r.deep
def tot:List (Tr × Int)->Nat
 | []=>0
 | p::r=>1+p.1.2.parts+tot r
theorem aP:∀ bs:List (Tr × Int),(ofPs bs).parts=tot bs
 | []=>rfl
 | p::r=>by show 1+p.1.2.parts+(ofPs r).parts=1+p.1.2.parts+tot r; rw [aP r]
theorem jw (g:Gr):tot g.ps=g.parts:=by rw [<- aP,aE]
theorem aT:∀ bs cs:List (Tr × Int),tot (bs++cs)=tot bs+tot cs
 | [],cs=>by simp [tot]
 | p::r,cs=>by show 1+p.1.2.parts+tot (r++cs)=_; rw [aT r cs,tot]; omega
theorem jX {bs cs:List (Tr × Int)} (h:bs.Perm cs):tot bs=tot cs:=by
 induction h with
 | nil=>rfl
 | cons x _ ih=>simp only [tot]; omega
 | swap x y l=>simp only [tot]; omega
 | trans _ _ h1 h2=>omega
theorem qO:∀ bs:List (Tr × Int),bs.length<=tot bs
 | []=>Yc _
 | p::r=>by have:=qO r; show r.length+1<=1+p.1.2.parts+tot r; omega
theorem qt (bs:List (Tr × Int)):tot (jn bs)<=tot bs:=by
 have key:∀ (bs acc:List (Tr × Int)),tot (bs.foldl fw acc)<=tot acc+tot bs:=by
  intro bs
  induction bs with
  | nil=>intro acc; simp [tot]
  | cons x r ih =>
   intro acc;have h1:=ih (fw acc x);have h2:tot (fw acc x)<=tot acc+(1+x.1.2.parts):=by
    rcases List.eq_nil_or_concat acc with h | ⟨a,z,h⟩
    ·subst h; simp [yt,tot]
    ·subst h;rw [List.concat_eq_append,rZ];by_cases hz:z.1=x.1
     ·rw [if_pos hz,aT,aT]; simp only [tot]; rw [hz]; omega
     ·rw [if_neg hz,aT,aT]; simp only [tot]; omega
   show tot (r.foldl fw (fw acc x))<=tot acc+(1+x.1.2.parts+tot r);omega
 have:=key bs [];simpa [jn,tot] using this
theorem av:∀ (g:Gr) (p:Tr × Int),p ∈ g.ps->p.1.2.deep < g.deep
 | .nil,p,h=>by cases h
 | .cons k g m r,p,h=>by
  rcases Qv h with h | h
  ·subst h; show g.deep < max (1+g.deep) r.deep; omega
  ·have:=av r p h; show _ < max (1+g.deep) r.deep; omega
theorem bE:∀ (g:Gr) (p:Tr × Int),p ∈ g.ps->p.1.2.parts < g.parts
 | .nil,p,h=>by cases h
 | .cons k g m r,p,h=>by
  rcases Qv h with h | h
  ·subst h; show g.parts < 1+g.parts+r.parts; omega
  ·have:=bE r p h; show _ < 1+g.parts+r.parts; omega
theorem i9 {n:Nat}:∀ {g:Gr},(∀ p ∈ g.ps,p.1.2.deep < n)->g.deep<=n
 | .nil,_=>Nat.zero_le _
 | .cons k g m r,h=>by
  have h1:=h ((k,g),m) (bw ..);have h2:=i9 (g:=r) fun p hp=>h p (bI _ hp);show max (1+g.deep) r.deep<=n;have:g.deep < n:=h1;omega
theorem aM (g:Gr):g.ps.length<=g.parts:=by have:=qO g.ps; rw [jw] at this; exact this
theorem jJ:∀ g h:Gr,alikeAll g.encs h.encs=true
 | .nil,_=>by simp [encs,alikeAll]
 | .cons _ _ _ _,.nil=>by simp [encs,alikeAll]
 | .cons k g m r,.cons k' g' m' r'=>by
  have h1:=jJ g g';have h2:=jJ r r';simp [encs,alikeAll,alike,h1,h2]
theorem dQ (g h:Gr):alike g.enc h.enc=true:=by
 show alike (.tuple g.encs) (.tuple h.encs)=true;rw [alike]; exact jJ g h
theorem sb (a b:Str):(a == b)=decide (a=b):=by by_cases h:a=b <;> simp [h]
theorem vJ:∀ g h:Gr,PyData.eqvAll g.encs h.encs=decide (g=h)
 | .nil,.nil=>by simp [encs,PyData.eqvAll]
 | .nil,.cons _ _ _ _=>by simp [encs,PyData.eqvAll]
 | .cons _ _ _ _,.nil=>by simp [encs,PyData.eqvAll]
 | .cons k g m r,.cons k' g' m' r'=>by
  have h1:=vJ g g';have h2:=vJ r r';simp [encs,PyData.eqvAll,PyData.eqv,h1,h2,Bool.and_assoc,ib,sb]
theorem a5 (g h:Gr):PyData.eqv g.enc h.enc=decide (g=h):=by
 rw [enc,enc,PyData.eqv]; exact vJ g h
instance:Orderly aO where
 al a b:=by simp [aO,alike,alikeAll,dQ]
 eq a b:=by
  simp only [aO,PyData.eqv,PyData.eqvAll,a5,Bool.and_true,sb];by_cases h:a=b
  ·subst h; simp
  ·rw [Qz h,Bool.and_eq_false_iff];by_cases h1:a.1=b.1
   ·exact .inr (Qz fun h2=>h (Prod.ext h1 h2))
   ·exact .inl (Qz h1)
theorem cB:∀ g:Gr,kT g.encs=true
 | .nil=>by simp [encs,kT]
 | .cons k g m r=>by simp [encs,kT,gJ,cB g,cB r]
theorem af (g:Gr):gJ g.enc=true:=by simp [enc,gJ,cB g]
theorem a6 (t:Tr):gJ (aO t)=true:=by simp [aO,gJ,kT,af]
theorem aj (p:Tr × Int):gJ (aC p)=true:=by simp [aC,mS,gJ,kT,a6]
theorem cC:∀ g:Gr,PyData.depthAll g.encs<=3*g.deep
 | .nil=>by simp [encs,PyData.depthAll,deep]
 | .cons k g m r=>by
  have h1:=cC g;have h2:=cC r;simp only [encs,PyData.depthAll,PyData.depth,deep];omega
theorem eO (g:Gr):g.enc.depth<=3*g.deep+1:=by
 have:=cC g;simp only [enc,PyData.depth];omega
theorem mV (t:Tr):(aO t).depth<=3*t.2.deep+2:=by
 have:=eO t.2;simp only [aO,PyData.depth,PyData.depthAll]; omega
theorem eL (p:Tr × Int):(aC p).depth<=3*p.1.2.deep+3:=by
 have:=mV p.1;simp only [aC,mS,PyData.depth,PyData.depthAll]; omega
def Ok (C:Int):Gr->Prop
 | .nil=>True
 | .cons k g m r=>dN k/\g.Ok C/\1<=m/\m < C/\r.Ok C/\∀ p ∈ r.ps,dataLt (aO (k,g)) (aO p.1)=true
theorem Ok.mono {B C:Int} (h:B<=C):∀ {g:Gr},g.Ok B->g.Ok C
 | .nil,_=>trivial
 | .cons k g m r,⟨h0,h1,h2,h3,h4,h5⟩=>⟨h0,Ok.mono h h1,h2,by omega,Ok.mono h h4,h5⟩
theorem eF {C:Int}:∀ {bs:List (Tr × Int)},(ofPs bs).Ok C ↔ (∀ p ∈ bs,dN p.1.1/\p.1.2.Ok C/\1<=p.2/\p.2 < C)/\bs.Pairwise (fun p q=>dataLt (aO p.1) (aO q.1)=true)
 | []=>by simp [ofPs,Ok]
 | x::r=>by
  have ih:=eF (C:=C) (bs:=r);show (dN x.1.1/\x.1.2.Ok C/\1<=x.2/\x.2 < C/\(ofPs r).Ok C/\∀ p ∈ (ofPs r).ps,dataLt (aO x.1) (aO p.1)=true) ↔ _;rw [aK,List.pairwise_cons,ih];constructor
  ·rintro ⟨h0,h1,h2,h3,⟨h4,h5⟩,h6⟩
   refine ⟨fun p hp=>?_,h6,h5⟩;rcases Qv hp with hp | hp
   ·subst hp; exact ⟨h0,h1,h2,h3⟩
   ·exact h4 p hp
  ·rintro ⟨h1,h2,h3⟩
   have h4:=h1 x (bw ..);exact ⟨h4.1,h4.2.1,h4.2.2.1,h4.2.2.2,⟨fun p hp=>h1 p (bI _ hp),h3⟩,h2⟩
theorem aV {g:Gr}:g.Ok C ↔ (∀ p ∈ g.ps,dN p.1.1/\p.1.2.Ok C/\1<=p.2/\p.2 < C)/\g.ps.Pairwise (fun p q=>dataLt (aO p.1) (aO q.1)=true):=by
 have:=eF (C:=C) (bs:=g.ps);rw [aE] at this;exact this
theorem fF {k:Str} (h:dN k):PySem.PyData.strOk k=true:=by
 show k.cps.all (· < 0x110000)=true;rw [Array.all_eq_true'];intro c hc;have:=h.2.2 c (by simpa using hc);simp; omega
theorem oZ {C:Int}:∀ {g:Gr},g.Ok C->PyData.canLayAll0 g.encs=true
 | .nil,_=>by simp [encs,PyData.canLayAll0]
 | .cons k g m r,⟨h0,h1,_,_,h4,_⟩=>by
  have e1:=oZ h1;have e2:=oZ h4;simp [encs,PyData.canLayAll0,PyData.canLay0,e1,e2,fF h0]
theorem aA {g:Gr} (h:g.Ok C) (hd:g.deep<=20):SeqAt.shaped g.enc=true:=by
 have:=g.eO;unfold SeqAt.shaped;rw [show g.enc.canLay0=true by rw [enc,PyData.canLay0]; exact oZ h];simp; omega
theorem lV {t:Tr} (h0:dN t.1) (h:t.2.Ok C) (hd:t.2.deep<=20):SeqAt.shaped (aO t)=true:=by
 have:=mV t;unfold SeqAt.shaped;rw [show (aO t).canLay0=true by simp [aO,PyData.canLay0,PyData.canLayAll0,fF h0,enc,oZ h]];simp; omega
theorem nH (bs:List (Tr × Int)):AllAlike (bs.map aC):=AllAlike.of fun a b=>Orderly.al (enc:=aC) a b
theorem fW (bs:List (Tr × Int)):Sortable (bs.map aC):=Sortable.tuples fun b=>⟨_,_,rfl⟩
def tidy (bs:List (Tr × Int)):Gr:=ofPs (rR aO bs)
theorem gN (bs:List (Tr × Int)):(tidy bs).parts<=tot bs:=by
 unfold tidy;rw [aP];have h1:=qt (sD (mS aO) bs);rw [jX (ER bs)] at h1;exact h1
theorem iW {bs:List (Tr × Int)} (h:∀ p ∈ bs,p.1.2.deep < n):(tidy bs).deep<=n:=by
 refine i9 fun p hp=>?_;unfold tidy at hp;rw [aK] at hp;obtain ⟨q,hq,e⟩:=IE bs p hp;rw [<- e]; exact h q hq
theorem qv {bs:List (Tr × Int)} (h:∀ p ∈ bs,dN p.1.1/\p.1.2.Ok C/\1<=p.2) (hD:cE bs < D) (hCD:C<=D):(tidy bs).Ok D:=by
 unfold tidy;rw [eF];refine ⟨fun p hp=>?_,ZW bs⟩;obtain ⟨q,hq,e⟩:=IE bs p hp;have wF:=h q hq;obtain ⟨h1,h2⟩:=Zj (enc:=aO) (fun p hp=>(h p hp).2.2) p hp;rw [<- e];exact ⟨wF.1,wF.2.1.mono hCD,h1,by omega⟩
end Gr
def GA (K:Qn) (H:Hp) (v:V) (g:Gr):Prop:=Dp K H v g.enc
section
variable {K:Qn} {ps:List Addr} {H H':Hp} {v:V} {g:Gr}
theorem GA.sb (h:GA K H v g) (e:SB ps H H'):GA K H' v g:=fc e _ _ g.af h
theorem vX (h:GA K H v g):∃ a xs,v=.ref a/\SqT K H a xs/\Bears K H Gr.aC xs g.ps:=by
 have h':Dp K H v (.tuple g.encs):=h;cases h' with
 | tup hs ha =>
  rw [Gr.d9] at ha;exact ⟨_,_,Ja,hs,Bears.of ha⟩
theorem QE {bs:List (Tr × Int)} (h:SqT K H a xs) (hb:Bears K H Gr.aC xs bs):GA K H (.ref a) (Gr.ofPs bs):=by
 refine Dp.tup h ?_;rw [Gr.d9,Gr.aK];exact hb.dp
theorem C7 (h:SqT K H p []):GA K H (.ref p) .nil:=Dp.tup h .nil
theorem SJ {t:Tr} (h:Dp K H v (Gr.aO t)):∃ a u,v=.ref a/\SqT K H a [.str t.1,u]/\GA K H u t.2:=by
 cases h with
 | tup hs ha =>
  cases ha with
  | cons h1 h2 =>
   cases h2 with
   | cons h3 h4 =>
    cases h4;cases h1;exact ⟨_,_,Ja,hs,h3⟩
theorem rY {p:Tr × Int} (h:Dp K H v (Gr.aC p)):∃ a b u,v=.ref a/\SqT K H a [.ref b,.int p.2]/\SqT K H b [.str p.1.1,u]/\GA K H u p.1.2/\Dp K H (.ref b) (Gr.aO p.1):=by
 cases h with
 | tup hs ha =>
  cases ha with
  | cons h1 h2 =>
   cases h2 with
   | cons h3 h4 =>
    cases h4;cases h3;obtain ⟨b,u,rfl,hb,hg⟩:=SJ h1;exact ⟨_,b,u,Ja,hs,hb,hg,h1⟩
end
def KU (K:Qn):Sp:=fun vs H Q _=>∃ (a:Addr) (xs:List V) (bs:List (Tr × Int)),vs=[.ref a]/\(SqL K H a xs\/SqT K H a xs)/\Bears K H Gr.aC xs bs/\bs.length<=1000/\(∃ C,∀ p ∈ bs,dN p.1.1/\p.1.2.Ok C/\p.1.2.deep<=18) /\
 ∀ (v:V) (H':Hp),SB [] H H'->GA K H' v (Gr.tidy bs)->Q v H'
def jN (z:Str) (n:Nat):Prop:=z.cps.toList.length=n/\∀ c ∈ z.cps.toList,97<=c/\c<=122
theorem jN.name (h:jN z n) (h1:1<=n) (h8:n<=8):dN z:=⟨by have:=h.1; omega,by have:=h.1; omega,h.2⟩
theorem jN.len (h:jN z n):z.length=n:=by have:=h.1; simpa [Str.length] using this
theorem jN.one {c:Nat} (h:97<=c/\c<=122):jN ⟨#[c]⟩ 1:=⟨rfl,fun x hx=>by simp at hx; subst hx; exact h⟩
theorem jN.append {a b:Str} {m:Nat} (ha:jN a n) (hb:jN b m):jN (a++b) (n+m):=by
 have e:(a++b).cps.toList=a.cps.toList++b.cps.toList:=by show (a.cps++b.cps).toList=_; simp
 unfold jN;rw [e,Yf,ha.1,hb.1];refine ⟨rfl,fun c hc=>?_⟩;rcases Qw hc with hc | hc
 ·exact ha.2 c hc
 ·exact hb.2 c hc
theorem jN.take {z:Str} {n:Nat} (h:jN z n) (k:Nat):jN (cutS z none (some (k:Int))) (min k n):=by
 have hl:=h.len;have e:(cutS z none (some (k:Int))).cps.toList=z.cps.toList.take (min k n):=by
  unfold cutS;rw [HT.sIx_none,HT.sIx_nat,hl];simp
 unfold jN;rw [e,Kx,h.1];exact ⟨by omega,fun c hc=>h.2 c (List.mem_of_mem_take hc)⟩
theorem z7u:∀ (cs:List Nat) (acc:Array Nat),((cs.map fun c=>(⟨#[c]⟩:Str)).foldl (fun acc p=>acc++(Str.ofString "").cps++p.cps) acc).toList=acc.toList++cs
 | [],acc=>by simp
 | c::cs,acc=>by
  have e0:(Str.ofString "").cps=#[]:=by decide +kernel
  rw [Ky,List.foldl_cons,z7u cs];simp [e0]
theorem zbd (cs:List Nat) (h:∀ c ∈ cs,97<=c/\c<=122):jN (Txt.join (Str.ofString "") (cs.map fun c=>⟨#[c]⟩)) cs.length:=by
 have e:(Txt.join (Str.ofString "") (cs.map fun c=>(⟨#[c]⟩:Str))).cps.toList=cs:=by
  show (Builtin.Str.glued (Str.ofString "") (cs.map fun c=>(⟨#[c]⟩:Str))).cps.toList=cs;unfold Builtin.Str.glued;cases cs with
  | nil=>rfl
  | cons c r =>
   show ((r.map fun c=>(⟨#[c]⟩:Str)).foldl (fun acc p=>acc++(Str.ofString "").cps++p.cps) #[c]).toList=c::r;rw [z7u]
   rfl
 unfold jN;rw [e];exact ⟨rfl,h⟩
abbrev uu:Str:=Str.ofString "abcdefghijklmnopqrstuvwxyz"
theorem zha:∀ r:Nat,r < 26->∃ c,uu.cps.toList[r]?=some c/\97<=c/\c<=122:=by
 have:∀ r:Fin 26,∃ c:Fin 200,uu.cps.toList[r.val]?=some c.val/\97<=c.val/\c.val<=122:=by decide +kernel
 intro r hr;obtain ⟨c,h⟩:=this ⟨r,hr⟩;exact ⟨c.val,h⟩
theorem Y5:uu.length<=sizeLine:=by decide +kernel
theorem QD {xs:List Nat} {j:Nat} {c:Nat} (h:xs[j]?=some c):atI xs (j:Int)=some c:=by
 have hj:j < xs.length:=(Kq h).1;unfold atI ixN;rw [if_pos (by omega),if_pos (by omega)];simpa using h
def zcw (K:Qn) {β:Type} (enc:β->PyData) (vs:List V) (H:Hp) (Q:VK):Prop:=∃ (a:Addr) (xs:List V) (bs:List β),vs=[V.ref a]/\(SqL K H a xs\/SqT K H a xs)/\Bears K H enc xs bs/\AllAlike (bs.map enc)/\Sortable (bs.map enc)/\bs.length<=10000000/\(∀ b ∈ bs,(enc b).depth<=100) /\
 ∀ (p:Addr) (ys:List V),H p=none->Bears K H enc ys (bs.mergeSort (dataLe false enc))->Q (.ref p) (upd H p (.lst ys))
theorem zah {X:Cx} {β:Type} (enc:β->PyData) (hu:X.A.units+110 < cLine):CallR X (.builtin "sorted") (zcw X.K enc):=by
 intro pins s σ H vs us Q I r h;obtain ⟨a,xs,bs,h1,h2,h3⟩:=h;rcases h2 with h2 | h2
 ·exact zaq enc hu pins s σ H vs us Q I r ⟨a,xs,bs,h1,h2,h3⟩
 ·exact zao enc hu pins s σ H vs us Q I r ⟨a,xs,bs,h1,h2,h3⟩
theorem Gr.sE {bs:List (Tr × Int)} (h:∃ C,∀ b ∈ bs,dN b.1.1/\b.1.2.Ok C/\b.1.2.deep<=18):SeqAt.shaped (.list (bs.map Gr.aC))=true:=by
 obtain ⟨C,h⟩:=h;have h1:PyData.canLayAll0 (bs.map Gr.aC)=true:=by
  induction bs with
  | nil=>simp [PyData.canLayAll0]
  | cons b r ih =>
   have e:=ih fun c hc=>h c (bI _ hc);obtain ⟨n,o,_⟩:=h b (bw ..);rw [Ky,PyData.canLayAll0,e];simp [Gr.aC,mS,Gr.aO,PyData.canLay0,PyData.canLayAll0,Gr.enc,Gr.oZ o,Gr.fF n]
 have h2:PyData.depthAll (bs.map Gr.aC)<=57:=by
  clear h1
  induction bs with
  | nil=>simp [PyData.depthAll]
  | cons b r ih =>
   have e1:=ih (fun c hc=>h c (bI _ hc));have e2:=(h b (bw ..)).2.2;have e3:=Gr.eL b;rw [Ky,PyData.depthAll];omega
 have h3:(PyData.list (bs.map Gr.aC)).depth=PyData.depthAll (bs.map Gr.aC)+1:=by simp [PyData.depth]
 unfold SeqAt.shaped;rw [PyData.canLay0,h1,Bool.true_and];exact Ya (by omega)
namespace Gr
def within:Gr->List (Tr × Int)
 | .nil=>[]
 | .cons k g m r=>((k,g),m)::(g.within++r.within)
theorem dO:∀ g:Gr,g.within=g.ps.flatMap fun p=>p::p.1.2.within
 | .nil=>rfl
 | .cons k g m r=>by show ((k,g),m)::(g.within++r.within)=_; rw [dO r]; rfl
theorem bZ:∀ g:Gr,g.within.length=g.parts
 | .nil=>rfl
 | .cons k g m r=>by show (g.within++r.within).length+1=1+g.parts+r.parts; rw [Yf,bZ g,bZ r]; omega
theorem i3 {x:Int} (h0:0<=x) (h:x < 2 ^ n):x.natAbs < 2 ^ n:=by
 have h2:((x.natAbs:Nat):Int)=x:=Int.natAbs_of_nonneg h0;have h3:((2 ^ n:Nat):Int)=(2:Int) ^ n:=by rw [Int.natCast_pow]; rfl
 exact Int.ofNat_lt.mp (by rw [h2,h3]; exact h)
end Gr
def EO (K:Qn) (n:Nat):Sp:=fun vs H Q _=>∃ (v:V) (g:Gr),vs=[v]/\GA K H v g/\g.deep < n/\g.parts<=200000/\∀ (D:Addr) (us:List V) (H':Hp),SB [] H H'->H D=none->H' D=some (.lst us)->Bears K H' Gr.aC us g.within->Q (.ref D) H'
section
variable {P:Program} {w:World} {K:Qn} {mg:Str->Option Value} {base:Heap} {f:Addr} {fd:FuncData}
theorem zdc {ps:List Str}:FnOk P w K mg base CX0 k f fd ps (EO K 0):=vW fun vs H Q E ⟨v,l,_,_,h,_⟩=>by omega
end
mutual
def plS:PyData->Bool
 | .int _=>true
 | .str x=>PyData.strOk x
 | .tuple ds=>plSs ds
 | _=>false
def plSs:List PyData->Bool
 | []=>true
 | d::ds=>plS d&&plSs ds
end
mutual
theorem Zi:∀ d:PyData,plS d=true->d.canLay0=true
 | .int _,_=>by simp [PyData.canLay0]
 | .str _,h=>by rw [plS] at h; rw [PyData.canLay0]; exact h
 | .tuple ds,h=>by rw [plS] at h; rw [PyData.canLay0]; exact Zz ds h
 | .none,h=>by simp [plS] at h
 | .bool _,h=>by simp [plS] at h
 | .list _,h=>by simp [plS] at h
 | .dict _,h=>by simp [plS] at h
theorem Zz:∀ ds:List PyData,plSs ds=true->PyData.canLayAll0 ds=true
 | [],_=>by simp [PyData.canLayAll0]
 | d::ds,h=>by
  rw [plSs,Bool.and_eq_true] at h;rw [PyData.canLayAll0,Zi d h.1,Zz ds h.2]; rfl
end
namespace Gr
def mE (g k:Gr):Gr:=tidy (g.ps++k.ps)
theorem yF (g k:Gr):(mE g k).ps=rR aO (g.ps++k.ps):=aK _
theorem kW (g k:Gr):(mE g k).parts<=g.parts+k.parts:=by
 have:=gN (g.ps++k.ps);rw [aT,jw,jw] at this;exact this
theorem sr {g k:Gr} (hg:g.deep<=n) (hk:k.deep<=n):(mE g k).deep<=n:=iW fun p hp=>by
 rcases Qw hp with h | h
 ·have:=g.av p h; omega
 ·have:=k.av p h; omega
abbrev S (g:Gr) (t:Tr):Int:=sumE g.ps t
theorem tV (g k:Gr) (t:Tr):S (mE g k) t=S g t+S k t:=by
 show sumE (mE g k).ps t=_;rw [yF,Iz,wV]
theorem jM {bs:List (Tr × Int)} {t:Tr} (h:∀ p ∈ bs,p.1 ≠ t):sumE bs t=0:=by
 induction bs with
 | nil=>rfl
 | cons p r ih =>
  show (if p.1=t then p.2 else 0)+sumE r t=0;rw [if_neg (h p (bw ..)),ih fun q hq=>h q (bI _ hq)]; rfl
theorem Aa:∀ {as bs:List (Tr × Int)},as.Pairwise (fun p q=>dataLt (aO p.1) (aO q.1)=true)->bs.Pairwise (fun p q=>dataLt (aO p.1) (aO q.1)=true)->(∀ p ∈ as,1<=p.2)->(∀ p ∈ bs,1<=p.2)->(∀ t,sumE as t=sumE bs t)->as=bs
 | [],[],_,_,_,_,_=>rfl
 | [],b::bs,_,h2,_,p2,h=>by
  have:=h b.1;have hz:sumE bs b.1=0:=jM fun q hq z=>by have:=(List.pairwise_cons.mp h2).1 q hq; rw [z,ET] at this; cases this
  have e:sumE (b::bs) b.1=b.2+sumE bs b.1:=by show (if b.1=b.1 then b.2 else 0)+_=_; rw [if_pos rfl]
  rw [e,hz] at this;have:=p2 b (bw ..);have z:sumE ([]:List (Tr × Int)) b.1=0:=rfl;omega
 | a::as,[],h1,_,p1,_,h=>by
  have:=h a.1;have hz:sumE as a.1=0:=jM fun q hq z=>by have:=(List.pairwise_cons.mp h1).1 q hq; rw [z,ET] at this; cases this
  have e:sumE (a::as) a.1=a.2+sumE as a.1:=by show (if a.1=a.1 then a.2 else 0)+_=_; rw [if_pos rfl]
  rw [e,hz] at this;have:=p1 a (bw ..);have z:sumE ([]:List (Tr × Int)) a.1=0:=rfl;omega
 | a::as,b::bs,h1,h2,p1,p2,h=>by
  obtain ⟨a1,a2⟩:=List.pairwise_cons.mp h1;obtain ⟨b1,b2⟩:=List.pairwise_cons.mp h2;have pa:=p1 a (bw ..);have pb:=p2 b (bw ..);have za:∀ t,(t=a.1\/dataLt (aO t) (aO a.1)=true)->sumE as t=0:=fun t ht=>jM fun q hq z=>by
   have q1:=a1 q hq;rw [z] at q1;rcases ht with ht | ht
   ·rw [ht,ET] at q1; cases q1
   ·rw [Qk ht] at q1; cases q1
  have zb:∀ t,(t=b.1\/dataLt (aO t) (aO b.1)=true)->sumE bs t=0:=fun t ht=>jM fun q hq z=>by
   have q1:=b1 q hq;rw [z] at q1;rcases ht with ht | ht
   ·rw [ht,ET] at q1; cases q1
   ·rw [Qk ht] at q1; cases q1
  have ea:∀ t,sumE (a::as) t=(if a.1=t then a.2 else 0)+sumE as t:=fun t=>rfl;have eb:∀ t,sumE (b::bs) t=(if b.1=t then b.2 else 0)+sumE bs t:=fun t=>rfl;have jH:a.1=b.1:=by
   by_cases e:a.1=b.1
   ·exact e
   ·exfalso
    cases cZ:dataLt (aO a.1) (aO b.1) with
    | true =>
     have:=h a.1;rw [ea,eb,if_pos rfl,if_neg (fun z=>e z.symm),za _ (.inl rfl),zb _ (.inr cZ)] at this;omega
    | false =>
     have Vw:=PV (enc:=aO) e cZ;have:=h b.1;rw [ea,eb,if_pos rfl,if_neg e,zb _ (.inl rfl),za _ (.inr Vw)] at this;omega
  have hm:a.2=b.2:=by
   have:=h a.1;rw [ea,eb,if_pos rfl,if_pos jH.symm,za _ (.inl rfl),zb _ (.inl jH)] at this;omega
  have he:a=b:=Prod.ext jH hm;subst he;rw [Aa a2 b2 (fun p hp=>p1 p (bI _ hp)) (fun p hp=>p2 p (bI _ hp)) fun t=>by have:=h t; rw [ea,eb] at this; omega]
theorem ext {g k:Gr} (hg:g.Ok C) (hk:k.Ok D) (h:∀ t,S g t=S k t):g=k:=by
 have h1:=aV.mp hg;have h2:=aV.mp hk;have:=Aa h1.2 h2.2 (fun p hp=>(h1.1 p hp).2.2.1) (fun p hp=>(h2.1 p hp).2.2.1) h;rw [<- aE g,<- aE k,this]
end Gr
theorem Si (h:n<=1000000):n < sizeLine:=by
 have:sizeLine=16777216:=sizeLine_eq;omega
open PySem.Sem in
theorem zbu {v:Value} {o:Obj} {Hh:Heap->Prop} (Bg:Begins v o Hh) :
  Meets (Builtin.«enumerate.__new__» ⟨[.type "enumerate",v],[]⟩) (fun _ R s=>Hh s.heap/\R (.ok (.ret (.ref (s.heap.push o).objs.size))) { s with heap:=(s.heap.push o).push { cls:=.type "enumerate",data:=.fields #[.none,.bool false,.ref s.heap.objs.size,rawInt 0,.none,.none] } }) :=
 .of_wp fun prog w A R s h=>by
  obtain ⟨hp,g,d,tk,os⟩:=s;obtain ⟨h1,h⟩:=h;have yd8:=sub_enumerate;have go:∀ {A2:Around} {E2:Value->Shared->Prop} {Q2:Value->Shared->Prop},Q2 (.ref hp.objs.size) ⟨hp.push o,g,d,tk,os⟩->wpAny (model prog w) A2 (pyIter v) Q2 E2 ⟨hp,g,d,tk,os⟩:=fun z=>Bg.iter prog w _ _ ⟨hp,g,d,tk,os⟩ _ h1 z
  wp_walk using go
  refine wpAny_stack_any fun stk=>wpAny_pure ?_
  split
  ·rename_i cl _ _ _ _ _;cases (cl == Value.type "enumerate") <;> (wp_walk using go; exact ⟨_,Ja,h⟩)
  ·wp_walk using go; exact ⟨_,Ja,h⟩
section
variable {prog:Program} {w:World} {A:Around} {E:Value->Shared->Prop} {s:Shared}
theorem zax {items:Array Value} {Q:Value->Shared->Prop} (hT:s.heap.IsTuple t items)
  (h:∀ h2,IsEnum h2 (s.heap.objs.size+1) s.heap.objs.size 0 .none->h2.IsTupleIter s.heap.objs.size t 0->(∀ b ob,s.heap.get? b=some ob->h2.get? b=some ob)->Q (.ref (s.heap.objs.size+1)) { s with heap:=h2 }):wpAny (model prog w) A (call (.type "enumerate") [.ref t]) Q E s:=by
 have Bg:=begins_tuple t items;refine callType_new F.called_enumerate (by decide) (F.typeCall_enumerate_1 _) (F.newCall_enumerate_1 _) (fun ob=>F.args_object_init_2 ob _) F.entry_enumerate_new (zbu Bg) ⟨hT,?_⟩;have hz:(s.heap.push { cls:=.type "tuple_iterator",data:=.fields #[.ref t,.int 0 0] }).objs.size=s.heap.objs.size+1:=Heap.size_push ..;show _/\_;rw [hz];have he:IsEnum ((s.heap.push { cls:=.type "tuple_iterator",data:=.fields #[.ref t,.int 0 0] }).push { cls:=.type "enumerate",data:=.fields #[.none,.bool false,.ref s.heap.objs.size,rawInt 0,.none,.none] }) (s.heap.objs.size+1) s.heap.objs.size 0 .none:=by
  have z:=Heap.get?_push_size (s.heap.push { cls:=.type "tuple_iterator",data:=.fields #[.ref t,.int 0 0] }) (o:={ cls:=.type "enumerate",data:=.fields #[.none,.bool false,.ref s.heap.objs.size,rawInt 0,.none,.none] }) rfl;rw [hz] at z;exact z
 exact ⟨⟨_,he,Ja⟩,h _ he ⟨_,Heap.get?_push_of_some _ (Heap.get?_push_size _ rfl),Ja,Ja⟩ fun b ob x=>Heap.get?_push_of_some _ (Heap.get?_push_of_some _ x)⟩
end
def HC (K:Qn) (a:Addr):It :=
 ⟨fun i H=>∃ (xs:List V) (x:V),SqT K H a xs/\xs[i]?=some x,
  fun i H v H2=>∃ T x,v=.ref T/\H T=none/\H2=upd H T (.tup [.int (i:Nat),x])/\∀ xs,SqT K H a xs->xs[i]?=some x,
  fun i H=>∃ xs:List V,SqT K H a xs/\xs.length=i⟩
theorem zas {w:World} (a e it:Addr) (Gp:e ≠ it) (Nl:a ≠ it) (MT:e ≠ a) :
  Turn P w K (.Tuple elts kk wY) (HC K a) [e,it] e (fun i h=>(∃ old,IsEnum h e it ((i:Nat):Int) old)/\h.IsTupleIter it a i) where
 mem:=by simp
 obj:=fun i h st b hb=>by
  obtain ⟨⟨old,he⟩,o,ho,hc,hd⟩:=st;rcases (show b=e\/b=it by simpa using hb) with z | z
  ·rw [z]; exact ⟨_,he,fun v q=>nomatch q⟩
  ·rw [z]; exact ⟨o,ho,fun v q=>by rw [hd] at q; cases q⟩
 keep:=fun i h h2 st k=>let ⟨⟨old,he⟩,o,ho,r⟩:=st; ⟨⟨old,k e (by simp) _ he⟩,o,k it (by simp) o ho,r⟩
 item:=by
  intro X hP hw hK hc i pins s σ H E I hf st hg;subst hP hw hK;obtain ⟨⟨old,he⟩,hit⟩:=st;obtain ⟨xs,x,hq,hx⟩:=hg;obtain ⟨bV,rv,p,hz⟩:=I.tuple hq;obtain ⟨u,hu,ru⟩:=rv.get hx;have DK:e < s.heap.objs.size:=Heap.lt_size he;have VC:it < s.heap.objs.size:=by obtain ⟨_,z,_⟩:=hit; exact Heap.lt_size z
  have Dr:=Draws.tuple (prog:=X.prog) (w:=X.w) (A:=X.A.in1) (I.ok.hd hc) it a Nl bV.toArray;have cZ:i < bV.toArray.size:=by
   have:=(Kq hu).1;simpa using this
  refine wpAny_pyNext_enum_itemD Dr he ⟨hit,p⟩ cZ Gp (by simp [Gp,MT]) fun y h2 tk hy ho jO hT ri hk=>?_;have U1:y=u:=by
   have h3:bV[i]?=some y:=by simpa using hy
   rw [hu] at h3; exact (Yd h3).symm
  subst U1;refine ⟨_,rfl,wpAny_letOwnedTupleGo_enum (s:={ s with heap:=h2,toks:=tk+1 }) ho fun h3 DL sb=>?_⟩;have ou:h3.get? s.heap.objs.size=some { cls:=.type "tuple",data:=.seq #[.int i tk,y] }:=(sb.2 _ (Nat.ne_of_gt DK)).trans hT;have nw:ObjOk X.prog X.w (upd H s.heap.objs.size (.tup [.int (i:Nat),x])) h3 s.heap.objs.size (.tup [.int (i:Nat),x]):=⟨dU,[.int i tk,y],.cons ⟨_,rfl⟩ (.cons ru .nil),⟨_,ou,rfl,_,rfl⟩⟩;have I1:Inv X pins σ (upd H s.heap.objs.size (.tup [.int (i:Nat),x])) { s with heap:=h3,toks:=tk+1 }:=I.turnedNew (ch:=[e,it]) (fun b ob hb z=>(sb.2 b (fun y=>hb (by simp [y]))).trans (hk b ob (fun y=>hb (by simp [y])) (fun y=>hb (by simp [y])) z)) hf (Yc _) nw;refine ⟨.ref s.heap.objs.size,_,I1,Ja,⟨_,x,Ja,I.hok.fresh (Yc _),Ja,fun ys hy=>by rw [I.tuple_inj hy hq]; exact hx⟩,⟨⟨y,?_⟩,?_⟩,fun b hb=>?_⟩
  ·rw [show ((i+1:Nat):Int)=(i:Int)+1 by omega]; exact DL
  ·obtain ⟨o,Ms,r⟩:=jO.1;exact ⟨o,(sb.2 it (Ne.symm Gp)).trans Ms,r⟩
  ·have dv:b < s.heap.objs.size:=by
    rcases (show b=e\/b=it by simpa using hb) with z | z
    ·rw [z]; exact DK
    ·rw [z]; exact VC
   rw [upd_ne (Nat.ne_of_lt dv)]; exact (hf b hb).1
 done:=by
  intro X hP hw hK hc i pins s σ H E I hf st hg;subst hP hw hK;obtain ⟨⟨old,he⟩,hit⟩:=st;obtain ⟨xs,hq,hx⟩:=hg;obtain ⟨bV,rv,p,hz⟩:=I.tuple hq;obtain ⟨f0,f1,f2,f3,f4,f5⟩:=hf it (by simp);have hl:=rv.length;have ht:s.heap.IsTuple a bV.toArray:=p;have Dr:=Draws.tuple (prog:=X.prog) (w:=X.w) (A:=X.A.in1) (I.ok.hd hc) it a Nl bV.toArray;have hn:bV.toArray.size=i:=by simp; omega
  refine wpAny_pyNext_enum_endD Dr he ⟨by rw [hn]; exact hit,ht⟩ fun h2 eb=>⟨rfl,I.turned (t':=s.toks) (fun b o hb z=>eb b o hb z) f0 f1 f3 f4 f5⟩
 self:=fun A i s Q E st h=>let ⟨⟨_,he⟩,_⟩:=st; wpAny_pyIter_enum he h
def zh0 (K:Qn) (te:TE):TI:=fun σ H R=>te σ H fun v H1=>∃ a xs,v=.ref a/\SqT K H1 a xs/\R (HC K a) H1
theorem zd3 {X:Cx} {ex:Expr} {te:TE} {p pos:Pos} (hg:Gl X "enumerate") (hm:X.mg "enumerate"=none) (he:PE X ex te) (hs:starEach [ex] X.env=(false,eval ex X.env)::starEach [] X.env:=by rfl) :
  PI X (.Tuple elts kk wY) (.Call (.Name "enumerate" p) [ex] [] pos) (zh0 X.K te):=by
 refine ⟨fun pins s σ H R I h=>?_⟩;refine Call_ (ld_blt I hg hm boot_enumerate (PyProof.Rows.callWith_type1 (args_cons (thn (he.run pins s σ H _ I h) fun u s1 ⟨v,H1,I1,r1,q1⟩=>args_nil ?_) hs) hs rfl));obtain ⟨a,xs,ev,hq,q⟩:=q1;subst ev;cases r1;obtain ⟨bV,rv,pt,hz⟩:=I1.tuple hq;have ht:s1.heap.IsTuple a bV.toArray:=pt;have tE:a < s1.heap.objs.size:=by obtain ⟨_,z,_⟩:=ht; exact Heap.lt_size z
 refine zax ht fun h2 pS hit hk=>wpAny_pyIter_enum pS ?_;have I2:Inv X pins σ H1 { s1 with heap:=h2 }:=I1.kept (t':=s1.toks) hk;refine ⟨s1.heap.objs.size+1,[s1.heap.objs.size+1,s1.heap.objs.size],_,_,H1,Ja,I2,zas a (s1.heap.objs.size+1) s1.heap.objs.size (Nat.succ_ne_self _) (Nat.ne_of_lt tE) (Nat.ne_of_gt (Nat.lt_succ_of_lt tE)),⟨⟨.none,pS⟩,hit⟩,fun b hb=>?_,q⟩;have hle:s1.heap.objs.size<=b:=by
  rcases (show b=s1.heap.objs.size+1\/b=s1.heap.objs.size by simpa using hb) with z | z
  ·rw [z]; exact Nat.le_add_right _ _
  ·rw [z]; exact Yc _
 exact I1.fpOk hle (I1.hok.fresh hle)
theorem zb1:Walk (HC K a) xs.length (fun H=>SqT K H a xs) (YPair (fun i=>some (.int (i:Nat))) (fun i=>xs[i]?)):=by
 refine ⟨fun i _ hi q=>⟨xs,xs[i],q,by simp [hi]⟩,fun _ q=>⟨xs,q,Ja⟩,fun i H v H2 _ q y=>?_⟩;obtain ⟨T,x,h1,h2,h3,h4⟩:=y;exact ⟨T,.int (i:Nat),x,h1,h2,h3,Ja,h4 xs q⟩
abbrev Pl:=List Nat
def qi (p:Pl):List PyData:=p.map fun n:Nat=>.int (n:Int)
def Bm (p:Pl):PyData:=.tuple (qi p)
theorem Z9:∀ p q:Pl,alikeAll (qi p) (qi q)=true
 | [],_=>by simp [qi,alikeAll]
 | _::_,[]=>by simp [qi,alikeAll]
 | a::p,b::q=>by
  have:=Z9 p q;show alikeAll (.int a::qi p) (.int b::qi q)=true;simp [alikeAll,alike,this]
theorem Y9:∀ p q:Pl,PyData.eqvAll (qi p) (qi q)=decide (p=q)
 | [],[]=>by simp [qi,PyData.eqvAll]
 | [],_::_=>by simp [qi,PyData.eqvAll]
 | _::_,[]=>by simp [qi,PyData.eqvAll]
 | a::p,b::q=>by
  have ih:=Y9 p q;show PyData.eqvAll (.int a::qi p) (.int b::qi q)=_;simp only [PyData.eqvAll,PyData.eqv,ih,ib];by_cases h:a=b
  ·subst h; simp
  ·have:¬ ((a:Int)=(b:Int)):=by omega
   simp [h,this]
instance:Orderly Bm where
 al a b:=by show alike (.tuple _) (.tuple _)=true; rw [alike]; exact Z9 a b
 eq a b:=by show PyData.eqv (.tuple _) (.tuple _)=_; rw [PyData.eqv]; exact Y9 a b
theorem ye (p:Pl):gJ (Bm p)=true:=by
 have:∀ p:Pl,kT (qi p)=true:=by
  intro p
  induction p with
  | nil=>simp [qi,kT]
  | cons a r ih=>show kT (.int a::qi r)=true; simp [kT,gJ,ih]
 show gJ (.tuple _)=true;rw [gJ]; exact this p
theorem Y4 {p:Pl} (h:Dp K H v (Bm p)):∃ a,v=.ref a/\SqT K H a (p.map fun n:Nat=>V.int (n:Int)):=by
 have key:∀ {p:Pl} {xs:List V},DpAll K H xs (qi p)->xs=p.map fun n:Nat=>V.int (n:Int):=by
  intro p
  induction p with
  | nil=>intro xs h; cases h; rfl
  | cons a r ih =>
   intro xs h;cases h with
   | cons h1 h2=>cases h1; rw [ih h2]; rfl
 cases h with
 | tup hs ha=>rw [key ha] at hs; exact ⟨_,Ja,hs⟩
theorem YF {p:Pl} (h:SqT K H a (p.map fun n:Nat=>V.int (n:Int))):Dp K H (.ref a) (Bm p):=by
 refine Dp.tup h ?_;have key:∀ p:Pl,DpAll K H (p.map fun n:Nat=>V.int (n:Int)) (qi p):=by
  intro p
  induction p with
  | nil=>exact .nil
  | cons a r ih=>exact .cons (.int _) ih
 exact key p
def Wh (K:Qn) (H:Hp) (v:V) (o:Option Int):Prop:=(∃ i,v=.int i/\o=some i)\/(o=none/\∃ (n:String) (b1 b2:Bool),TyX K H v (.type n)/\kitB n "int"=some b1/\(b1=true->kitB n "bool"=some b2)/\(b1&&!b2)=false)
inductive Whs (K:Qn) (H:Hp):List V->List (Option Int)->Prop where
 | nil:Whs K H [] []
 | cons {v:V} {o:Option Int} {vs:List V} {os:List (Option Int)}:Wh K H v o->Whs K H vs os->Whs K H (v::vs) (o::os)
section
variable {K:Qn} {H H':Hp}
theorem Whs.length:∀ {vs:List V} {os:List (Option Int)},Whs K H vs os->vs.length=os.length
 | _,_,.nil=>rfl
 | _,_,.cons _ h=>congrArg (·+1) h.length
theorem Whs.get:∀ {vs:List V} {os:List (Option Int)},Whs K H vs os->∀ {i:Nat} {v:V},vs[i]?=some v->∃ o,os[i]?=some o/\Wh K H v o
 | _,_,.nil,i,v,e=>by simp at e
 | _,_,.cons (o:=o) h hs,0,v,e=>by
  have:_=v:=Yd e;subst this; exact ⟨o,Ja,h⟩
 | _,_,.cons h hs,i+1,v,e=>hs.get (i:=i) e
theorem Wh.sb {o:Option Int} (h:Wh K H v o) (e:SB [] H H'):Wh K H' v o:=by
 rcases h with h | ⟨h,n,b1,b2,ty,k⟩
 ·exact .inl h
 ·exact .inr ⟨h,n,b1,b2,Ir e (fun _ _=>aL) ty,k⟩
theorem Whs.sb (e:SB [] H H'):∀ {vs:List V} {os:List (Option Int)},Whs K H vs os->Whs K H' vs os
 | _,_,.nil=>.nil
 | _,_,.cons h hs=>.cons (h.sb e) (Whs.sb e hs)
def A6 (p:Pl):List (Option Int):=p.map fun n:Nat=>some (n:Int)
theorem Whs.pl (K:Qn) (H:Hp):∀ p:Pl,Whs K H (p.map fun n:Nat=>V.int (n:Int)) (A6 p)
 | []=>.nil
 | n::r=>.cons (.inl ⟨_,rfl,rfl⟩) (Whs.pl K H r)
end
def ug (g:Gr):Option Int->Option Tr
 | none=>none
 | some n=>if 0<=n then (g.ps[n.toNat]?).map (·.1) else none
def lk:Tr->List (Option Int)->Option Tr
 | t,[]=>some t
 | t,o::r=>(ug t.2 o).bind fun u=>lk u r
theorem S7:∀ (t:Tr) (as bs:List (Option Int)),lk t (as++bs)=(lk t as).bind fun u=>lk u bs
 | t,[],bs=>rfl
 | t,o::r,bs=>by
  show (ug t.2 o).bind (fun u=>lk u (r++bs))=((ug t.2 o).bind fun u=>lk u r).bind fun u=>lk u bs;cases ug t.2 o with
  | none=>rfl
  | some u=>exact S7 u r bs
theorem zei {t:Tr} {os:List (Option Int)} {o:Option Int} {u:Tr} (h1:lk t (os.take i)=some u) (h2:os[i]?=some o) (h3:ug u.2 o=none):lk t os=none:=by
 have hl:i < os.length:=(Kq h2).1;have e:os=os.take i++o::os.drop (i+1):=by
  have:=List.drop_eq_getElem_cons hl;rw [(Kq h2).2] at this;rw [<- this,List.take_append_drop]
 rw [e,S7,h1];show (ug u.2 o).bind _=none;rw [h3]; rfl
theorem zf5 {t:Tr} {os:List (Option Int)} {o:Option Int} {u x:Tr} (h1:lk t (os.take i)=some u) (h2:os[i]?=some o) (h3:ug u.2 o=some x):lk t (os.take (i+1))=some x:=by
 rw [Yg,h2,S7,h1];show (ug u.2 o).bind _=some x;rw [h3]; rfl
def SM (K:Qn) (C:Addr):Sp:=fun vs H Q E=>∃ (v:V) (g:Gr) (a:Addr) (xs:List V) (os:List (Option Int)),vs=[v,.ref a]/\GA K H v g/\SqT K H a xs/\Whs K H xs os /\
 (∀ t,os ≠ []->lk ("",g) os=some t->∀ (x:V) (H':Hp),SB [] H H'->Dp K H' x (Gr.aO t)->Q x H')/\((os=[]\/lk ("",g) os=none)->∀ H',SB [] H H'->E (.ref C) none H')
mutual
inductive Tg (K:Qn) (H:Hp):V->PyData->Prop
 | int (i:Int):Tg K H (.int i) (.int i)
 | str (z:Str):z.length<=1000->Tg K H (.str z) (.str z)
 | tup {a:Addr} {xs:List V} {ds:List PyData}:SqT K H a xs->TgAll K H xs ds->Tg K H (.ref a) (.tuple ds)
 | oth {v:V} {n:String}:TyX K H v (.type n)->kitB n "tuple"=some false->kitB n "str"=some false->(kitB n "int"=some false\/n="bool")->Tg K H v .none
inductive TgAll (K:Qn) (H:Hp):List V->List PyData->Prop
 | nil:TgAll K H [] []
 | cons {v:V} {vs:List V} {d:PyData} {ds:List PyData}:Tg K H v d->TgAll K H vs ds->TgAll K H (v::vs) (d::ds)
end
mutual
def AQ:PyData->PyData
 | .int i=>.int i
 | .tuple ds=>.tuple (KN ds)
 | _=>.none
def KN:List PyData->List PyData
 | []=>[]
 | d::r=>AQ d::KN r
end
theorem z6w (d:PyData):rQ (AQ d)=rQ d:=by cases d <;> simp [AQ,rQ]
section
variable {K:Qn} {H H':Hp}
mutual
theorem Tg.th:∀ {v:V} {d:PyData},Tg K H v d->Th K [] H v (AQ d)
 | _,_,.int i=>by rw [AQ]; exact .int i
 | _,_,.str z _=>by rw [AQ] <;> first | exact .oth (.base (.str z)) (by decide +kernel) (.inl (by decide +kernel)) (fun _ _=>aL) | simp
 | _,_,.tup hs ha=>by rw [AQ]; exact .tup hs (TgAll.th ha)
 | _,_,.oth ty k1 _ k2=>by rw [AQ] <;> first | exact .oth ty k1 k2 (fun _ _=>aL) | simp
theorem TgAll.th:∀ {vs:List V} {ds:List PyData},TgAll K H vs ds->z6i K [] H vs (KN ds)
 | _,_,.nil=>by rw [KN]; exact .nil
 | _,_,.cons h t=>by rw [KN]; exact .cons (Tg.th h) (TgAll.th t)
end
mutual
theorem AR (e:SB [] H H'):∀ {v:V} {d:PyData},Tg K H v d->Tg K H' v d
 | _,_,.int i=>.int i
 | _,_,.str z hz=>.str z hz
 | _,_,.tup hs ha=>.tup (e.aH hs) (SY e ha)
 | _,_,.oth ty k0 k1 k2=>.oth (Ir e (fun _ _=>aL) ty) k0 k1 k2
theorem SY (e:SB [] H H'):∀ {vs:List V} {ds:List PyData},TgAll K H vs ds->TgAll K H' vs ds
 | _,_,.nil=>.nil
 | _,_,.cons h t=>.cons (AR e h) (SY e t)
end
theorem TgAll.length:∀ {vs:List V} {ds:List PyData},TgAll K H vs ds->vs.length=ds.length
 | _,_,.nil=>rfl
 | _,_,.cons _ t=>by rw [Yk,Yk,TgAll.length t]
theorem TgAll.get:∀ {vs:List V} {ds:List PyData} {i:Nat} {v:V},TgAll K H vs ds->vs[i]?=some v->∃ d,ds[i]?=some d/\Tg K H v d
 | _,_,_,_,.nil,e=>by simp at e
 | _,_,0,_,.cons h t,e=>by simp at e; subst e; exact ⟨_,Ja,h⟩
 | _,_,i+1,v,.cons h t,e=>by
  obtain ⟨d,h1,h2⟩:=TgAll.get (i:=i) (v:=v) t (by simpa using e);exact ⟨d,by simpa using h1,h2⟩
theorem Tg.ty {v:V} {d:PyData} (h:Tg K H v d):∃ n b,TyX K H v (.type n)/\kitB n "tuple"=some b/\(b=true->∃ a xs ds,v=.ref a/\d=.tuple ds/\SqT K H a xs/\TgAll K H xs ds)/\(b=false->∀ ds,d ≠ .tuple ds):=by
 cases h with
 | int i=>exact ⟨"int",false,.base (.int i),by decide +kernel,fun z=>(nomatch z),fun _ ds z=>nomatch z⟩
 | str z hz=>exact ⟨"str",false,.base (.str z),by decide +kernel,fun z=>(nomatch z),fun _ ds z=>nomatch z⟩
 | tup hs ha=>exact ⟨"tuple",true,(Iv hs),by decide +kernel,fun _=>⟨_,_,_,rfl,rfl,hs,ha⟩,fun z=>(nomatch z)⟩
 | oth ty k1 _ k2=>exact ⟨_,false,ty,k1,fun z=>(nomatch z),fun _ ds z=>nomatch z⟩
theorem Tg.txt {d:PyData} (h:Tg K H v d):∃ n b,TyX K H v (.type n)/\kitB n "str"=some b/\(b=true->∃ z,v=.str z/\d=.str z/\z.length<=1000)/\(b=false->∀ z,d ≠ .str z):=by
 cases h with
 | int i=>exact ⟨"int",false,.base (.int i),by decide +kernel,fun z=>(nomatch z),fun _ ds z=>nomatch z⟩
 | str z hz=>exact ⟨"str",true,.base (.str z),by decide +kernel,fun _=>⟨z,rfl,rfl,hz⟩,fun z=>(nomatch z)⟩
 | tup hs ha=>exact ⟨"tuple",false,(Iv hs),by decide +kernel,fun z=>(nomatch z),fun _ ds z=>nomatch z⟩
 | oth ty _ k1 k2=>exact ⟨_,false,ty,k1,fun z=>(nomatch z),fun _ ds z=>nomatch z⟩
end
instance (z:Str):Decidable (dN z):=inferInstanceAs (Decidable (_/\_/\_))
def wR:PyData->Bool
 | .str z=>decide (dN z)
 | _=>false
mutual
def jU:PyData->Bool
 | .tuple ds=>kr ds&&KW (ds.map pA)
 | _=>false
def kr:List PyData->Bool
 | []=>true
 | d::ds=>jS d&&kr ds
def jS:PyData->Bool
 | .tuple ds=>pz ds
 | _=>false
def pz:List PyData->Bool
 | []=>false
 | t::r=>mR t&&ud r
def mR:PyData->Bool
 | .tuple ds=>sk ds
 | _=>false
def sk:List PyData->Bool
 | []=>false
 | k::r=>wR k&&uH r
def uH:List PyData->Bool
 | []=>false
 | g::r=>jU g&&r.isEmpty
end
theorem zbr {r:List PyData} (h:ud r=true):∃ i,r=[.int i]/\(1:Int)<=i:=by
 match r,h with
 | [],h=>simp [ud] at h
 | .int i::[],h=>simp [ud,rQ] at h; exact ⟨i,Ja,h⟩
 | .int i::_::_,h=>simp [ud] at h
 | .none::_,h=>simp [ud,rQ] at h
 | .bool _::_,h=>simp [ud,rQ] at h
 | .str _::_,h=>simp [ud,rQ] at h
 | .list _::_,h=>simp [ud,rQ] at h
 | .dict _::_,h=>simp [ud,rQ] at h
 | .tuple _::_,h=>simp [ud,rQ] at h
theorem S6 {d:PyData} (h:wR d=true):∃ z,d=.str z/\dN z:=by
 cases d with
 | str z=>exact ⟨z,Ja,Ks h⟩
 | _=>simp [wR] at h
mutual
theorem Tb:∀ d:PyData,jU d=true->∃ g:Gr,d=g.enc
 | .tuple ds,h=>by
  rw [jU,Bool.and_eq_true] at h;obtain ⟨g,e⟩:=SW ds h.1;exact ⟨g,by rw [e]; rfl⟩
 | .none,h=>by simp [jU] at h
 | .bool _,h=>by simp [jU] at h
 | .int _,h=>by simp [jU] at h
 | .str _,h=>by simp [jU] at h
 | .list _,h=>by simp [jU] at h
 | .dict _,h=>by simp [jU] at h
theorem SW:∀ ds:List PyData,kr ds=true->∃ g:Gr,ds=g.encs
 | [],_=>⟨.nil,rfl⟩
 | d::ds,h=>by
  rw [kr,Bool.and_eq_true] at h;obtain ⟨r,er⟩:=SW ds h.2;obtain ⟨t,i,ed,he⟩:=SE d h.1;exact ⟨.cons t.1 t.2 i r,by rw [er,ed]; rfl⟩
theorem SE:∀ d:PyData,jS d=true->∃ (t:Tr) (i:Int),d=.tuple [Gr.aO t,.int i]/\(1:Int)<=i
 | .tuple ds,h=>by
  rw [jS] at h;obtain ⟨e,i,ed,he⟩:=zd6 ds h;exact ⟨e,i,by rw [ed],he⟩
 | .none,h=>by simp [jS] at h
 | .bool _,h=>by simp [jS] at h
 | .int _,h=>by simp [jS] at h
 | .str _,h=>by simp [jS] at h
 | .list _,h=>by simp [jS] at h
 | .dict _,h=>by simp [jS] at h
theorem zd6:∀ ds:List PyData,pz ds=true->∃ (t:Tr) (i:Int),ds=[Gr.aO t,.int i]/\(1:Int)<=i
 | [],h=>by simp [pz] at h
 | d::r,h=>by
  rw [pz,Bool.and_eq_true] at h;obtain ⟨t,et⟩:=ZN d h.1;obtain ⟨i,er,hi⟩:=zbr h.2;exact ⟨t,i,by rw [et,er],hi⟩
theorem ZN:∀ d:PyData,mR d=true->∃ t:Tr,d=Gr.aO t
 | .tuple ds,h=>by
  rw [mR] at h;obtain ⟨t,et⟩:=zct ds h;exact ⟨t,by rw [et]; rfl⟩
 | .none,h=>by simp [mR] at h
 | .bool _,h=>by simp [mR] at h
 | .int _,h=>by simp [mR] at h
 | .str _,h=>by simp [mR] at h
 | .list _,h=>by simp [mR] at h
 | .dict _,h=>by simp [mR] at h
theorem zct:∀ ds:List PyData,sk ds=true->∃ t:Tr,ds=[.str t.1,t.2.enc]
 | [],h=>by simp [sk] at h
 | d::r,h=>by
  rw [sk,Bool.and_eq_true] at h;obtain ⟨z,ez,_⟩:=S6 h.1;obtain ⟨g,eg⟩:=zcr r h.2;exact ⟨(z,g),by rw [ez,eg]⟩
theorem zcr:∀ ds:List PyData,uH ds=true->∃ g:Gr,ds=[g.enc]
 | [],h=>by simp [uH] at h
 | d::r,h=>by
  rw [uH,Bool.and_eq_true] at h;obtain ⟨g,eg⟩:=Tb d h.1;have:r=[]:=by cases r with | nil=>rfl | cons _ _=>simp at h
  exact ⟨g,by rw [eg,this]⟩
end
section
variable {K:Qn} {H:Hp}
theorem R9 {C:Int}:∀ (g:Gr) {vs:List V},g.Ok C->DpAll K H vs g.encs->TgAll K H vs g.encs
 | .nil,vs,_,h=>by cases h; exact .nil
 | .cons k g m r,vs,ho,h=>by
  cases h with
  | cons h1 h2 =>
   refine .cons ?_ (R9 r ho.2.2.2.2.1 h2);cases h1 with
   | tup hs ha =>
    cases ha with
    | cons h3 h4 =>
     cases h4 with
     | cons h5 h6 =>
      cases h6; cases h5;refine .tup hs (.cons ?_ (.cons (.int _) .nil));cases h3 with
      | tup dS hb =>
       cases hb with
       | cons h7 h8 =>
        cases h8 with
        | cons h9 RU =>
         cases RU; cases h7;cases h9 with
         | tup rT hc=>exact .tup dS (.cons (.str _ (by have:=ho.1.2.1; simp [Str.length]; simp at this; omega)) (.cons (.tup rT (R9 g ho.2.1 hc)) .nil))
theorem EJ:∀ (g:Gr) {vs:List V},TgAll K H vs g.encs->DpAll K H vs g.encs
 | .nil,vs,h=>by cases h; exact .nil
 | .cons k g m r,vs,h=>by
  cases h with
  | cons h1 h2 =>
   refine .cons ?_ (EJ r h2);cases h1 with
   | tup hs ha =>
    cases ha with
    | cons h3 h4 =>
     cases h4 with
     | cons h5 h6 =>
      cases h6; cases h5;refine .tup hs (.cons ?_ (.cons (.int _) .nil));cases h3 with
      | tup dS hb =>
       cases hb with
       | cons h7 h8 =>
        cases h8 with
        | cons h9 RU =>
         cases RU; cases h7;cases h9 with
         | tup rT hc=>exact .tup dS (.cons (.str _) (.cons (.tup rT (EJ g hc)) .nil))
end
def Sk (K:Qn):Sp:=fun vs H Q _=>∃ (v:V) (d:PyData),vs=[v]/\Tg K H v d/\∀ H',SB [] H H'->Q (.bl (wR d)) H'
def KZ (K:Qn) (n:Nat):Sp:=fun vs H Q _=>∃ (v:V) (d:PyData),vs=[v]/\Tg K H v d/\d.depth < n/\d.depth<=80/\wide d<=1000/\∀ H',SB [] H H'->Q (.bl (mR d)) H'
def IH (K:Qn) (n:Nat):Sp:=fun vs H Q _=>∃ (v:V) (d:PyData),vs=[v]/\Tg K H v d/\d.depth < n/\d.depth<=80/\wide d<=1000/\∀ H',SB [] H H'->Q (.bl (jU d)) H'
def Lb (K:Qn) (tp:Bool) (n:Nat):Sp:=fun vs H Q _=>∃ (a:Addr) (xs:List V) (ds:List PyData),vs=[.ref a]/\(if tp=true then SqT K H a xs else SqL K H a xs)/\TgAll K H xs ds/\PyData.depthAll ds < n/\PyData.depthAll ds<=79/\wide (.tuple ds)<=1000/\∀ H',SB [] H H'->Q (.bl (kr ds)) H'
def Zd (K:Qn):Sp:=fun vs H Q _=>∃ (z y:Str) (k:Nat),vs=[.str z,.int (k:Int),.str y]/\z.length<=100000/\k<=z.length/\∀ e:Nat,k<=e->e<=z.length->(∀ j c,k<=j->j < e->z.cps.toList[j]?=some c->c ∈ y.cps.toList)->(∀ c,z.cps.toList[e]?=some c->c ∉ y.cps.toList)->Q (.str (cutS z (some (k:Int)) (some (e:Int)))) H
theorem YZ (c:Nat):c ∈ uu.cps.toList ↔ 97<=c/\c<=122:=by
 have e:uu.cps.toList=(List.range 26).map (·+97):=by decide +kernel
 rw [e,List.mem_map];constructor
 ·rintro ⟨x,hx,rfl⟩
  have:=List.mem_range.mp hx;omega
 ·intro h;exact ⟨c-97,List.mem_range.mpr (by omega),by omega⟩
theorem P9 (z:Str):z.cps.toList.length=z.length:=by simp [Str.length]
theorem OQ (z:Str) {e:Nat} (he:e<=z.length):(cutS z (some ((0:Nat):Int)) (some (e:Int))).cps.toList=z.cps.toList.take e:=by
 unfold cutS;rw [HT.sIx_nat,HT.sIx_nat];simp [Nat.min_eq_left he]
theorem zcv {e:Nat} (h1:1<=z.length) (h8:z.length<=8) (he:e<=z.length) (DJ:∀ j c,0<=j->j < e->z.cps.toList[j]?=some c->c ∈ uu.cps.toList) (F6:∀ c,z.cps.toList[e]?=some c->c ∉ uu.cps.toList) :
  decide (V.str (cutS z (some ((0:Nat):Int)) (some (e:Int)))=V.str z)=wR (.str z):=by
 have hl:=P9 z;rw [Bool.eq_iff_iff,decide_eq_true_iff,wR,decide_eq_true_iff];constructor
 ·intro h
  injection h with h
  have h2:=OQ z he;rw [h] at h2;have h3:z.cps.toList.length=min e z.cps.toList.length:=by
   have:=congrArg List.length h2
   rwa [Kx] at this
  refine ⟨by omega,by omega,fun c hc=>?_⟩;obtain ⟨j,hj⟩:=List.mem_iff_getElem?.mp hc;have hj2:=(Kq hj).1;exact (YZ c).mp (DJ j c (Nat.zero_le _) (by omega) hj)
 ·rintro ⟨_,_,oq⟩
  have e1:e=z.length:=by
   rcases Nat.lt_or_ge e z.length with h | h
   ·obtain ⟨c,hc⟩:∃ c,z.cps.toList[e]?=some c:=⟨_,Kp (by omega)⟩;exact absurd ((YZ c).mpr (oq c (Qu hc))) (F6 c hc)
   ·omega
  have h2:=OQ z he;rw [e1,<- hl,Yh] at h2
  congr 1
  have h3:∀ a b:Str,a.cps.toList=b.cps.toList->a=b:=by
   intro a b jH;cases a; cases b
   congr 1
   exact Array.toList_inj.mp jH
  rw [e1,<- hl];exact h3 _ _ h2
theorem ZP (h:¬ (1<=z.length/\z.length<=8)):wR (.str z)=false:=by
 have hl:=P9 z;rw [wR];exact Qz fun ⟨h1,h2,_⟩=>h ⟨by omega,by omega⟩
theorem ZS (h:dN z):wR (.str z)=true:=Ya h
theorem zd0 {t:Tr} (h0:dN t.1) (h:jU t.2.enc=true):mR (Gr.aO t)=true:=by
 rw [Gr.aO,mR,sk,uH,ZS h0,h]; rfl
theorem zg6 {t:Tr} (h0:dN t.1) (h:jU t.2.enc=true) (hm:1<=m):jS (Gr.aC (t,m))=true:=by
 show jS (.tuple [Gr.aO t,.int m])=true;rw [jS,pz,ud,zd0 h0 h];simp [rQ,hm]
theorem QI {C:Int}:∀ {g:Gr},g.Ok C->jU g.enc=true
 | .nil,_=>by decide +kernel
 | .cons k g m r,⟨h0,h1,h2,h3,h4,h5⟩=>by
  have a1:=QI h1;have a2:=QI h4;rw [Gr.enc,jU,Bool.and_eq_true] at a2;have hp:jS (Gr.aC ((k,g),m))=true:=zg6 h0 a1 h2;have e:(Gr.cons k g m r).encs=Gr.aC ((k,g),m)::r.encs:=rfl;rw [Gr.enc,jU,e,kr,hp,a2.1,Bool.true_and,Bool.true_and,Ky];cases r with
  | nil=>rfl
  | cons k2 g2 m2 r2 =>
   have cZ:dataLt (Gr.aO (k,g)) (Gr.aO (k2,g2))=true:=h5 ((k2,g2),m2) (bw ..);have e2:(Gr.cons k2 g2 m2 r2).encs=Gr.aC ((k2,g2),m2)::r2.encs:=rfl;have a3:=a2.2;rw [e2,Ky] at a3 ⊢;show (dataLt (Gr.aO (k,g)) (Gr.aO (k2,g2))::ltsD _).all id=true;rw [List.all_cons,show id (dataLt (Gr.aO (k,g)) (Gr.aO (k2,g2)))=true from cZ,Bool.true_and];exact a3
theorem QF:∀ g:Gr,uB g.encs<=2+g.parts/\g.encs.length<=g.parts
 | .nil=>⟨by show uB []<=_; rw [uB]; omega,Yc _⟩
 | .cons k g m r=>by
  obtain ⟨h1,h2⟩:=QF g;obtain ⟨h3,h4⟩:=QF r;have e:(Gr.cons k g m r).encs=Gr.aC ((k,g),m)::r.encs:=rfl;have e2:wide (Gr.aC ((k,g),m))<=2+g.parts:=by
   show wide (.tuple [.tuple [.str k,.tuple g.encs],.int m])<=_;simp only [wide,uB,Yk,List.length_nil];omega
  rw [e,uB,Yk];show _<=2+(1+g.parts+r.parts)/\_<=1+g.parts+r.parts;omega
section
variable {K:Qn} {H:Hp} {C:Int}
theorem ZJ {g:Gr} (ho:g.Ok C) (h:GA K H v g):Tg K H v g.enc:=by
 cases (h:Dp K H v (.tuple g.encs)) with
 | tup hs ha=>exact .tup hs (R9 g ho ha)
theorem zaj (h:dN z):z.length<=1000:=by
 have:=h.2.1;rw [P9] at this;omega
end
theorem zey {α:Type} {xs:List α} {v:α} (h:xs[xs.length-1]?=some v):atI xs (-1)=some v:=by
 rcases List.eq_nil_or_concat xs with e | ⟨ys,u,e⟩
 ·subst e; simp at h
 ·rw [List.concat_eq_append] at e;subst e;have:u=v:=by simpa using h
  subst this;exact atI_last ys u
theorem SB.lh {aU:List (Key × V)} {ps:List Addr} (h:H p=some (.dK aU)) (hp:p ∈ ps) (o:HO):SB ps H (upd H p o):=by
 refine ⟨fun b u e n=>?_,fun b u e=>?_,fun b v u e=>?_,fun b e=>?_⟩
 ·rw [upd_ne (fun (z:b=p)=>n (by rw [z]; exact hp))]; exact e
 ·rw [upd_ne (fun (z:b=p)=>by subst z; rw [h] at e; cases e)]; exact e
 ·rw [upd_ne (fun (z:b=p)=>by subst z; rw [h] at e; cases e)]; exact e
 ·by_cases q:b=p
  ·subst q; rw [Qt] at e; cases e
  ·rw [upd_ne q] at e; exact e
open TL (tl)
theorem zd9 {w:World} {fd:FuncData} {ps:List Str} {sp:Sp} (no:∀ vs H Q E,¬ sp vs H Q E):FnOk P w K mg base (L2.CX P w) k f fd ps sp :=
 ⟨fun vs H Q E h=>absurd h (no vs H Q E),fun A outer s H args us vs Q E _ _ _ _ h=>absurd h (no vs H Q E)⟩
def met (xs:List Str):Nat->List Str
 | 0=>[]
 | i+1=>if (met xs i).any (· == xs.getD i Str.empty)=true then met xs i else met xs i++[xs.getD i Str.empty]
theorem PY (xs:List Str):∀ i,(met xs i).length<=i
 | 0=>Yc _
 | i+1=>by
  have:=PY xs i;unfold met
  split
  ·omega
  ·rw [Yf]; simp; omega
theorem zeh (xs:List Str) (i:Nat) (k:Str):(met xs (i+1)).any (· == k)=((met xs i).any (· == k) || decide (k=xs.getD i Str.empty)):=by
 rw [met];by_cases e:k=xs.getD i Str.empty
 ·subst e
  split
  ·rename_i h; rw [h]; simp
  ·simp
 ·rw [Qz e,Bool.or_false]
  split
  ·rfl
  ·rw [List.any_append];have:([xs.getD i Str.empty].any (· == k))=false:=by
    simp only [List.any_cons,List.any_nil,Bool.or_false,beq_eq_false_iff_ne];exact fun z=>e z.symm
   rw [this,Bool.or_false]
theorem zez (xs:List Str) (i:Nat):(met xs (i+1)).length=if (met xs i).any (· == xs.getD i Str.empty)=true then (met xs i).length else (met xs i).length+1:=by
 rw [met]; split <;> simp
abbrev gX (P:Program) (w:World) (h:Heap) (a:Addr) (L:List Str):Prop:=h.SetOf (PySem.strKind P w) a (fun k=>L.any (· == k)) L.length
theorem gX.keep {w:World} {h':Heap} {L:List Str} (S:gX P w h a L) (k:∀ o,h.get? a=some o->h'.get? a=some o):gX P w h' a L:=by
 obtain ⟨o,es,ep,t,ho,r⟩:=S; exact ⟨o,es,ep,t,k o ho,r⟩
section
variable {P:Program} {w:World} {A:Around}
theorem zcl {R:Result->Shared->Prop} {I:Addr} {fp wr:List Addr} {G:Array GenState->Array GenState->Prop} {Pv:Nat->Value->Prop} {St:Nat->Shared->Prop} (W:WalksS P w A.in1 I fp wr G n Pv St) (S:Addr) (hSf:S ∉ fp) (xs:List Str) (hn:n+1 < scanBound)
  (U4:∀ i v,Pv i v->∃ t,v=.str (xs.getD i Str.empty) t):∀ (k i:Nat) (s:Shared),k+i=n->St i s->gX P w s.heap S (met xs i) ->
   (∀ s',Moved (S::wr) G s s'->gX P w s'.heap S (met xs n)->R (.ok (.ret .none)) s')->codeAny (model P w) A (.builtin "set.update.loop" ⟨[.ref S,.ref I],[]⟩) R s:=by
 have out:S ∉ wr:=fun z=>hSf (W.sub _ z);have up:∀ b ∈ wr,b ∈ S::wr:=fun b z=>bI _ z;intro k
 induction k with
 | zero =>
  intro i s e st hS hR;rw [Nat.zero_add] at e; subst e;refine codeAny_builtin F.entry_set_update_loop (by
   rw [Around.under_plainId F.plain_set_update_loop _];show wpAny _ A.in1 (pyNext (.ref I) >>= _) _ _ s;refine Ke (W.done s _ _ st fun s' hm=>?_);show wpAny _ A.in1 (ret Value.none) _ _ s';exact wpAny_pure (hR s' (hm.mono up) (hS.keep fun o e=>hm.heap S o out e)))
 | succ k ih =>
  intro i s e st hS hR;have lt:i < n:=by omega
  refine codeAny_builtin F.entry_set_update_loop (by
   rw [Around.under_plainId F.plain_set_update_loop _];show wpAny _ A.in1 (pyNext (.ref I) >>= _) _ _ s;refine Ke (W.item i s _ _ lt st fun v s' hP TM hm=>?_);obtain ⟨t,rfl⟩:=U4 i v hP;have CD:gX P w s'.heap S (met xs i):=hS.keep fun o e=>hm.heap S o out e;show wpAny _ A.in1 (holding [Value.str (xs.getD i Str.empty) t] (setAdd S (.str (xs.getD i Str.empty) t)) >>= _) _ _ s';refine Ke (wpAny_holding ?_);unfold setAdd;refine wpAny_holding (Ke ((PySem.strKind P w).pyHash (k:=xs.getD i Str.empty) (PySem.Froz.is_str _ _) ?_));have room:(met xs i).length+1 < scanBound:=by have:=PY xs i; omega
   refine wpAny_setAddHashed_of (knd:=PySem.strKind P w) (s:={ s' with toks:=s'.toks+1 }) (PySem.Froz.is_str _ _) rfl CD room fun h' hZ RJ=>?_;have hSi:gX P w h' S (met xs (i+1)):=SetOf_congr RJ (fun k'=>(zeh xs i k').symm) (zez xs i).symm;refine wpAny_pure ⟨plainId_quiet F.plain_set_update_loop _,ih (i+1) _ (by omega) (W.frame _ s' _ _ TM (Nat.le_succ _) fun b hb o e=>?_) hSi fun s'' Vu We=>?_⟩
   ·rw [hZ.2 b fun z:b=S=>hSf (z ▸ hb)]; exact e
   ·refine hR s'' (Moved.trans W.gtrans ((hm.mono up).then_heap (Nat.le_succ _) fun b o hb e=>?_) Vu) We;rw [hZ.2 b fun z:b=S=>hb (z ▸ bw)]; exact e)
abbrev eo (led:Bool):Obj:={ cls:=.type "set",dict:=none,data:=.set #[] 0 (.fresh 0 0 led) }
set_option maxHeartbeats 8000000 in
theorem zb8 {E:Value->Shared->Prop} {l:Addr} {bV:Array Value} {xs:List Str} {Q:Value->Shared->Prop} (hh:A.handled=none) (hl:s.heap.IsList l bV) (hi:StrsAre bV.toList xs) (hb:bV.size+1 < scanBound)
  (h:∀ (h':Heap) (tk:Nat),gX P w h' s.heap.objs.size (met xs bV.size)->(∀ b o,b < s.heap.objs.size->s.heap.get? b=some o->h'.get? b=some o)->Q (.ref s.heap.objs.size) { s with heap:=h',toks:=tk }) :
  wpAny (model P w) A (call (.type "set") [.ref l]) Q E s:=by
 obtain ⟨c,tl',yee⟩:=PySem.F.called_set.mro;have k1:=PySem.F.called_set.made; have k2:=PySem.F.called_set.sub;refine wpAny_call (codeAny_of_tree (by
  show wpAny _ _ (callAny (.type "set") _) _ _ _;refine wpAny_pure ⟨Code.quiet_builtin _ (by decide +kernel),codeAny_builtin PySem.F.entry_type_call ?_⟩;rw [Around.under_plain (weight_type_call_type "set" [.ref l] []) rfl];have k3:=PySem.F.called_set.notType; have k4:=PySem.F.called_set.canCreate; have k5:=PySem.F.typeCall_set_1 (.ref l)
  repeat (any_goals (first | assumption | wp_step))
  refine codeAny_mono (code_set_new_1 (.ref l) (E:=E) (Q₁:=fun ob z=>∃ led:Bool,ob=.ref s.heap.objs.size/\z={ s with heap:=s.heap.push (eo led) }) fun led=>⟨led,rfl,rfl⟩) fun r z hr=>?_;cases r with
  | error e=>exact hr
  | ok fl =>
  cases fl with
  | ret ob =>
   obtain ⟨led,rfl,rfl⟩:=hr;have at0:(s.heap.push (eo led)).get? s.heap.objs.size=some (eo led):=Heap.get?_push_size _ rfl;have ty0:Shared.TypeIs { s with heap:=s.heap.push (eo led) } (.ref s.heap.objs.size) "set":=⟨_,at0,rfl⟩;have k6:=PySem.F.called_set.init.lookup; have k7:=PySem.F.called_set.init.bind (.ref s.heap.objs.size)
   repeat (any_goals (first | assumption | wp_step))
   refine codeAny_mono (codeAny_call_builtin (R:=wants (fun r s₂=>r=.none/\∃ h' tk,s₂={ s with heap:=h',toks:=tk }/\gX P w h' s.heap.objs.size (met xs bV.size)/\(∀ b o,b < s.heap.objs.size->s.heap.get? b=some o->h'.get? b=some o)) E) PySem.F.called_set.init.plain PySem.F.entry_set_init (check_set_init_1 ty0 ?_)) fun r₂ s₂ Vf=>?_
   ·obtain ⟨⟨oc,od,oda,osl⟩,Jd,hcl,nl,hdl⟩:=hl;simp only at hcl hdl;subst hcl hdl;have Vo:(s.heap.push (eo led)).get? l=some ⟨.type "list",od,.seq bV nl,osl⟩:=Heap.get?_push_of_some _ Jd;have k8:=PySem.F.sub_list_set; have k9:=PySem.F.sub_list_frozenset;have k10:(Value.type "list" == Value.type "dict")=false:=by decide
    have isl:(s.heap.push (eo led)).IsList l bV:=⟨_,Vo,rfl,nl,rfl⟩;unfold Builtin.«set.__init__» noKeywords Builtin.Frozenset.updateFrom;generalize hPI:pyIter=PI
    wp_walk
    subst hPI;refine wpAny_pyIter_list isl (Ke (wpAny_runValue ?_));have ltl:l < s.heap.objs.size:=Heap.lt_size Jd;have TF:(s.heap.push (eo led)).objs.size=s.heap.objs.size+1:=Heap.size_push ..;have Rk:l ≠ (s.heap.push (eo led)).objs.size:=Nat.ne_of_lt (TF ▸ Nat.lt_succ_of_lt ltl);have nin:s.heap.objs.size ∉ [(s.heap.push (eo led)).objs.size,l]:=by
     intro z;rcases Qv z with z | z
     ·exact absurd (z.trans TF) (Nat.ne_of_lt (Nat.lt_succ_self _))
     ·have:s.heap.objs.size=l:=by simpa using z
      exact absurd this.symm (Nat.ne_of_lt ltl)
    refine zcl ((Walks.list (show A.in1.in1.in1.handled=none by simp [hh]) _ l Rk bV).toS) s.heap.objs.size nin xs hb (fun i v hv=>SS.strs_at hi i v (by rw [Array.getElem?_toList]; exact hv)) bV.size 0 _ rfl ⟨⟨_,Heap.get?_push_size _ rfl,Ja,Ja⟩,isl.push _⟩ ?c1 ?c2
    case c1=>exact SetOf_congr ((setObjOf_fresh (knd:=PySem.strKind P w) led).setOf (Heap.get?_push_of_some _ at0) (by unfold scanBound; omega)) (fun _=>rfl) rfl
    case c2 =>
     rintro ⟨h',g',d',tk',UC⟩ hm CD
     have eg:g'=s.gens:=hm.gens; have ed:d'=s.drawn:=hm.drawn; have eo':UC=s.os:=hm.os;subst eg ed eo';show wpAny _ _ _ _ _ _;refine wpAny_pure (show wpAny _ _ (ret Value.none) _ _ _ from wpAny_pure ⟨rfl,h',tk',Ja,CD,fun b o DS e=>hm.heap b o (fun z=>?_) (Heap.get?_push_of_some _ (Heap.get?_push_of_some _ e))⟩);rcases Qv z with z | z
     ·exact absurd z (Nat.ne_of_lt DS)
     ·have:b=(s.heap.push (eo led)).objs.size:=by simpa using z
      exact absurd (this.trans TF) (Nat.ne_of_lt (Nat.lt_succ_of_lt DS))
   ·cases r₂ with
    | error e=>exact Vf
    | ok fl₂ =>
    cases fl₂ with
    | ret r =>
     obtain ⟨rfl,h',tk,rfl,CD,yj⟩:=Vf
     repeat (any_goals (first | assumption | wp_step))
     exact h _ _ CD yj
    | _=>exact Vf.elim
  | _=>exact hr.elim))
end
theorem SA (xs:List Str):∀ (i:Nat) (k:Str),k ∈ met xs i ↔ ∃ j,j < i/\xs.getD j Str.empty=k
 | 0,k=>by simp [met]
 | i+1,k=>by
  rw [met];have ih:=SA xs i k
  split
  ·rename_i h;rw [ih];refine ⟨fun ⟨j,a,b⟩=>⟨j,by omega,b⟩,fun ⟨j,a,b⟩=>?_⟩;by_cases e:j=i
   ·subst e;obtain ⟨y,hy,he⟩:=List.any_eq_true.mp h;have:=(SA xs j y).mp hy;rw [beq_iff_eq.mp he,b] at this;exact this
   ·exact ⟨j,by omega,b⟩
  ·rw [List.mem_append,ih];refine ⟨fun z=>?_,fun ⟨j,a,b⟩=>?_⟩
   ·rcases z with ⟨j,a,b⟩ | z
    ·exact ⟨j,by omega,b⟩
    ·exact ⟨i,by omega,(Qy z).symm⟩
   ·by_cases e:j=i
    ·subst e; exact .inr (Kv b.symm)
    ·exact .inl ⟨j,by omega,b⟩
theorem QK (xs:List Str):∀ i,(met xs i).Nodup
 | 0=>List.nodup_nil
 | i+1=>by
  rw [met]
  split
  ·exact QK xs i
  ·rename_i h;refine List.nodup_append.mpr ⟨QK xs i,by simp,fun a ha b hb e=>h ?_⟩;rw [Qy hb] at e;exact List.any_eq_true.mpr ⟨a,ha,beq_iff_eq.mpr e⟩
theorem zem (xs:List Str) (k:Str):k ∈ met xs xs.length ↔ k ∈ xs:=by
 rw [SA];refine ⟨fun ⟨j,a,b⟩=>?_,fun h=>?_⟩
 ·rw [<- b,List.getD_eq_getElem?_getD,Kp a]; exact List.getElem_mem a
 ·obtain ⟨j,a,b⟩:=List.getElem_of_mem h;exact ⟨j,a,by rw [List.getD_eq_getElem?_getD,Kp a]; exact b⟩
theorem ZM (xs:List Str):∀ i,i<=xs.length->(met xs i).length=i->met xs i=xs.take i
 | 0,_,_=>by simp [met]
 | i+1,hi,h=>by
  have hl:=PY xs i;rw [met] at h ⊢
  split at h
  ·omega
  ·rename_i hn;rw [if_neg hn];rw [Yf,Yi] at h;rw [ZM xs i (by omega) (by omega),Yg,List.getD_eq_getElem?_getD,Kp (by omega)]
   rfl
theorem z86 (xs:List Str):(met xs xs.length).length=xs.length ↔ xs.Nodup:=by
 constructor
 ·intro h;have e:=ZM xs xs.length (Yc _) h;rw [Yh] at e;rw [<- e]; exact QK xs _
 ·intro h;exact ((List.perm_ext_iff_of_nodup (QK xs _) h).mpr fun k=>zem xs k).length_eq
section
variable {X:Cx}
def zcb (K:Qn) (ta:TE):TE:=fun σ H Q=>ta σ H fun x H1=>∃ (l:Addr) (zs:List Str),x=V.ref l/\SqL K H1 l (zs.map V.str)/\zs.length < 1000/\Q (.int (met zs zs.length).length) H1
theorem zb3 {a:Expr} {ta:TE} {p p2 q pos:Pos} (hc:X.calm=true) (B:BI X.mg) (g1:Gl X "len") (g2:Gl X "set") (ha:PE X a ta)
  (na:starEach [a] X.env=(false,eval a X.env)::starEach [] X.env:=by rfl):PE X (.Call (.Name "len" p) [.Call (.Name "set" p2) [a] [] q] [] pos) (zcb X.K ta):=by
 refine ⟨fun pins s σ H Q I h=>Call_ (ld_blt I g1 B.len PySem.boot_len ?_)⟩;refine PyProof.Rows.callWith_builtin1 (PyProof.Rows.args_cons (Call_ (ld_blt I g2 B.set PyProof.Rows.boot_set ?_)) rfl) rfl rfl;refine PyProof.Rows.callWith_type1 (PyProof.Rows.args_cons (thn (ha.run pins s σ H _ I h) fun v s1 ⟨x,H1,I1,r1,l,zs,ex,hq,h1,q1⟩=>PyProof.Rows.args_nil ?_) na) na rfl;subst ex;cases r1;obtain ⟨bV,rv,pl,hz⟩:=I1.list hq;have hlen:bV.toArray.size=zs.length:=by rw [List.size_toArray,<- rv.length,Ye]
 refine zb8 (xs:=zs) (I1.ok.hd hc) pl.isList (by simpa using rv.strs) (by rw [hlen]; unfold scanBound; omega) fun h' tk hS hk=>PyProof.Rows.args_nil ?_;rw [hlen] at hS;have hm:=PY zs zs.length;obtain ⟨o,es,ep,t,ho,hex,hd,_,_,_,hf,hn⟩:=hS;have J:Inv X pins σ H1 { s1 with heap:=h',toks:=tk }:=I1.kept fun b o e=>hk b o (Heap.lt_size e) e;exact call_len_set ho hex hd hf (by rw [hn]; omega) ⟨.int (met zs zs.length).length,H1,J.tok _,⟨_,by rw [hn]⟩,q1⟩
end
section
variable {X:Cx} {CX:CXT} {k:Nat} {f C:Addr} {fd:FuncData} {ps:List Str} {sp:Sp} {E:L2.St->XK} {x m:Str} {p pos apos:Pos} {e o:Expr} {es:List Expr} {ta:TE} {t:TA}
def KL (C:Addr) (m:Str) (sp:Sp) (E:L2.St->XK) (ta:TE) (t:TA):TE:=fun σ H Q=>ta σ H fun y H1=>∃ a dx fs,y=.ref a/\H1 a=some (.ins C dx fs)/\fs.lookup m=none/\t σ H1 fun vs H2=>sp (y::vs) H2 Q (E σ)
def YN (C:Addr) (sp:Sp) (E:L2.St->XK) (t:TA):TE:=fun σ H Q=>t σ H fun vs H1=>∀ y dx,H1 y=none->H1 dx=none->dx ≠ y ->
 sp (.ref y::vs) (upd (upd H1 dx (.own y)) y (.ins C dx [])) (fun v H2=>v=.non/\Q (.ref y) H2) (E σ)
theorem ZO {pl:Sem Bool} (ho:PE X o ta) (c:Cls X.K C) (hm:Meth X.K C m f) (F:FnOk X.prog X.w X.K X.mg X.base CX k f fd ps sp) (hr:Room k X.A) (hb:Binds X.K fd ps []) (hx:∀ σ,PassesAt CX X σ (E σ)) (ha:PA X (e::es) t)
  (jO:starEach (e::es) X.env=(false,eval e X.env)::starEach es X.env:=by rfl) (ff:(backTo pos (starEach es X.env)).any (·.1)=false:=by rfl)
  (ht:eval (.Call (.Attribute o m apos) (e::es) [] pos) X.env=(do
    let ov <- eval o X.env
    standAt apos.atName
    let (g,first) <- holding [ov] (getMethod ov m pl)
    callWith pos g first (backTo pos (starEach (e::es) X.env)) (backToKw pos (keywordEach [] X.env))):=by rfl) :
  PE X (.Call (.Attribute o m apos) (e::es) [] pos) (KL C m sp E ta t):=by
 refine ⟨fun pins s σ H Q I h=>PySem.W.methodCall_KW (pl:=pl) (thn (ho.run pins s σ H _ I h) fun u s1 ⟨y,H1,I1,ry,a,dx,fs,ey,ea,l,q⟩=>?_) ht⟩;subst ey;cases (show u=Value.ref a from ry);exact getmeth_ok I1 ea c hm l (PySem.W.callWith_K (first:=[.ref a]) (h₀:=X.base) I.ok.mod.kin hm.kp
  (thn (ha.run pos pins s1 σ H1 _ I1 q) fun us s2 ⟨vs,H2,I2,r,q2⟩=>⟨I2.kIn,run_fnS (us:=.ref a::us) (vs:=.ref a::vs) F hr hb (hx σ) I2 (.cons rfl r) q2⟩) jO ff)
theorem zbm {pl:Sem Bool} (ho:PE X o ta) (c:Cls X.K C) (hm:Meth X.K C m f) (F:FnOk X.prog X.w X.K X.mg X.base CX k f fd ps sp) (hr:Room k X.A) (hb:Binds X.K fd ps []) (hx:∀ σ,PassesAt CX X σ (E σ))
  (ht:eval (.Call (.Attribute o m apos) [] [] pos) X.env=(do
    let ov <- eval o X.env
    standAt apos.atName
    let (g,first) <- holding [ov] (getMethod ov m pl)
    callWith pos g first (backTo pos (starEach [] X.env)) (backToKw pos (keywordEach [] X.env))):=by rfl) :
  PE X (.Call (.Attribute o m apos) [] [] pos) (KL C m sp E ta tNil):=by
 refine ⟨fun pins s σ H Q I h=>PySem.W.methodCall_KW (pl:=pl) (thn (ho.run pins s σ H _ I h) fun u s1 ⟨y,H1,I1,ry,a,dx,fs,ey,ea,l,q⟩=>?_) ht⟩;subst ey;cases (show u=Value.ref a from ry);exact getmeth_ok I1 ea c hm l (PySem.W.callWith_K0 (first:=[.ref a]) I1.kIn hm.kp (run_fnS (us:=[.ref a]) (vs:=[.ref a]) F hr hb (hx σ) I1 (.cons rfl .nil) q))
theorem zcj (M:Mk X.K C f) (F:FnOk X.prog X.w X.K X.mg X.base CX k f fd ps sp) (hr:Room (k+1) X.A) (hg:Gl X x) (hm:X.mg x=some (.ref C)) (hb:Binds X.K fd ps []) (hx:∀ σ,PassesAt CX X σ (E σ))
  (ha:PA X (e::es) t) (zQ:(x == ("__debug__":Str))=false:=by decide) (he:starEach (e::es) X.env=(false,eval e X.env)::starEach es X.env:=by rfl) (ff:(backTo pos (starEach es X.env)).any (·.1)=false:=by rfl) :
  PE X (.Call (.Name x p) (e::es) [] pos) (YN C sp E t):=by
 refine ⟨fun pins s σ H Q I h=>wpAny_Call_Name_kw (ld_glob I hg hm ?_ zQ)⟩;refine PySem.W.callWith_K (h₀:=X.base) I.ok.mod.kin M.kp (thn (ha.run pos pins s σ H _ I h) fun us s1 ⟨vs,H1,I1,r,q⟩=>⟨I1.kIn,?_⟩) he ff;have hq:=q (s1.heap.objs.size+1) s1.heap.objs.size (I1.hok.fresh (Nat.le_succ _)) (I1.hok.fresh (Yc _)) (Nat.ne_of_lt (Nat.lt_succ_self _));have J:=Inv.made (C:=C) I1;have r2:Vals (V.ref (s1.heap.objs.size+1)::vs) (Value.ref (s1.heap.objs.size+1)::us):=.cons rfl r;have hl:(Value.ref (s1.heap.objs.size+1)::us).length=ps.length:=by rw [<- r2.length]; exact F.len _ _ _ _ hq
 have b:=hb _ (Value.ref (s1.heap.objs.size+1)::us) J.kIn (by rw [Kz]; exact hl);rw [Kz] at b;refine wpAny_call (make_map (f:=f) I1.kIn M.makes M.init (beq_iff_eq.mp M.fn) (codeAny_mono (F.run _ X.stack _ _ ⟨Value.ref (s1.heap.objs.size+1)::us,[]⟩ (Value.ref (s1.heap.objs.size+1)::us) _ _ (E σ) (hr.make C us [])
  (J.env0.make C us []) b r2 hq) fun r s' rq=>?_))
 match r,rq with
 | .error er,rq=>exact hx σ pins _ _ er s' J rq
 | .ok (.ret u),rq =>
  obtain ⟨v,H',J3,rv,ev,q3⟩:=J.after rq;subst ev;exact ⟨rv,⟨V.ref (s1.heap.objs.size+1),H',J3,Ja,q3⟩⟩
 | .ok .next,rq=>exact rq.elim
 | .ok .brk,rq=>exact rq.elim
 | .ok .cont,rq=>exact rq.elim
end
structure GotM (P:Program) (w:World) (K:Qn) (mg:Str->Option Value) (base:Heap) (C:Addr) (m:Str) (ps:List Str) (k:Nat) (sp:Sp):Prop where
 ex:∃ (f:Addr) (fd:FuncData),FnOk P w K mg base CX0 k f fd ps sp/\Meth K C m f/\Binds K fd ps []/\Cls K C
structure z2h (P:Program) (w:World) (K:Qn) (mg:Str->Option Value) (base:Heap) (C:Addr) (m:Str) (ps:List Str) (k:Nat) (sp:Sp):Prop where
 ex:∃ (f:Addr) (fd:FuncData),FnOk P w K mg base (L2.CX P w) k f fd ps sp/\Meth K C m f/\Binds K fd ps []/\Cls K C
structure GotI (P:Program) (w:World) (K:Qn) (mg:Str->Option Value) (base:Heap) (x:Str) (C:Addr) (ps:List Str) (k:Nat) (sp:Sp):Prop where
 ex:∃ (f:Addr) (fd:FuncData),FnOk P w K mg base (L2.CX P w) k f fd ps sp/\Mk K C f/\Binds K fd ps []/\mg x=some (.ref C)
section
variable {X:Cx} {C:Addr} {x m:Str} {ps:List Str} {k:Nat} {sp:Sp} {e o:Expr} {es:List Expr} {ta:TE} {t:TA} {p pos apos:Pos} {pl:Sem Bool}
theorem SO (G:GotM X.prog X.w X.K X.mg X.base C m ps k sp) (hr:Room k X.A) (ho:PE X o ta)
  (ht:eval (.Call (.Attribute o m apos) [] [] pos) X.env=(do
    let ov <- eval o X.env
    standAt apos.atName
    let (g,first) <- holding [ov] (getMethod ov m pl)
    callWith pos g first (backTo pos (starEach [] X.env)) (backToKw pos (keywordEach [] X.env))):=by rfl) :
  PE X (.Call (.Attribute o m apos) [] [] pos) (KL C m sp (fun _=>E0) ta tNil):=by
 obtain ⟨f,fd,h1,h2,h3,h4⟩:=G.ex;exact zbm ho h4 h2 h1 hr h3 (fun σ pins H s e s' I c=>pass0 pins σ H s e s' I c) ht
theorem zcs (G:z2h X.prog X.w X.K X.mg X.base C m ps k sp) (hr:Room k X.A) (ho:PE X o ta) (ha:PA X (e::es) t)
  (jO:starEach (e::es) X.env=(false,eval e X.env)::starEach es X.env:=by rfl) (ff:(backTo pos (starEach es X.env)).any (·.1)=false:=by rfl)
  (ht:eval (.Call (.Attribute o m apos) (e::es) [] pos) X.env=(do
    let ov <- eval o X.env
    standAt apos.atName
    let (g,first) <- holding [ov] (getMethod ov m pl)
    callWith pos g first (backTo pos (starEach (e::es) X.env)) (backToKw pos (keywordEach [] X.env))):=by rfl) :
  PE X (.Call (.Attribute o m apos) (e::es) [] pos) (KL C m sp (fun _=>E0) ta t):=by
 obtain ⟨f,fd,h1,h2,h3,h4⟩:=G.ex;exact ZO ho h4 h2 h1 hr h3 (fun σ pins H s e s' I c=>passL pins σ H s e s' I c) ha jO ff ht
theorem SU {W:WX} (G:z2h X.prog X.w X.K X.mg X.base C m ps k sp) (hr:Room k X.A) (tk:Takes X W) (ho:PE X o ta) (ha:PA X (e::es) t)
  (jO:starEach (e::es) X.env=(false,eval e X.env)::starEach es X.env:=by rfl) (ff:(backTo pos (starEach es X.env)).any (·.1)=false:=by rfl)
  (ht:eval (.Call (.Attribute o m apos) (e::es) [] pos) X.env=(do
    let ov <- eval o X.env
    standAt apos.atName
    let (g,first) <- holding [ov] (getMethod ov m pl)
    callWith pos g first (backTo pos (starEach (e::es) X.env)) (backToKw pos (keywordEach [] X.env))):=by rfl) :
  PE X (.Call (.Attribute o m apos) (e::es) [] pos) (KL C m sp (WE W) ta t):=by
 obtain ⟨f,fd,h1,h2,h3,h4⟩:=G.ex;exact ZO ho h4 h2 h1 hr h3 (fun σ=>passAt tk σ) ha jO ff ht
theorem zeq (G:GotI X.prog X.w X.K X.mg X.base x C ps k sp) (hr:Room (k+1) X.A) (hg:Gl X x) (ha:PA X (e::es) t) (zQ:(x == ("__debug__":Str))=false:=by decide)
  (he:starEach (e::es) X.env=(false,eval e X.env)::starEach es X.env:=by rfl) (ff:(backTo pos (starEach es X.env)).any (·.1)=false:=by rfl) :
  PE X (.Call (.Name x p) (e::es) [] pos) (YN C sp (fun _=>E0) t):=by
 obtain ⟨f,fd,h1,h2,h3,h4⟩:=G.ex;exact zcj h2 h1 hr hg h4 h3 (fun σ pins H s e s' I c=>passL pins σ H s e s' I c) ha zQ he ff
end
def Sr (K:Qn) (C:Addr):Sp:=fun vs H Q _=>∃ (a:Addr) (y:V),vs=[.ref a,y]/\OexC K C/\PySem.W.findIn K (.ref C) "kind"=some none/\H a=some (exo a C none)/\∀ dx,H dx=none->dx ≠ a->Q .non (upd (upd H dx (exd dx [("kind",y)])) a (exo a C (some dx)))
structure OwnI (P:Program) (w:World) (K:Qn) (mg:Str->Option Value) (base:Heap) (x:Str) (C:Addr) (k:Nat):Prop where
 gC:mg x=some (.ref C)
 T:OexC K C
 no:PySem.W.findIn K (.ref C) "kind"=some none
 ex:∃ (f:Addr) (fd:FuncData),PySem.W.findIn K (.ref C) "__init__"=some (some (.ref f))/\PySem.W.typeIn K (.ref f)=some (.type "function")/\FnOk P w K mg base CX0 k f fd [bf,"kind"] (Sr K C)/\Binds K fd [bf,"kind"] []
def Sd (K:Qn) (C:Addr):Bool:=(match K.lookup C with
 | some ⟨.type "type",_,.cls cd,sl⟩=>(match cd.mro,sl.toList with
  | .ref D::bm,[_,_,_,_,some (.builtin n),_]=>decide (D=C)&&(n == "ValueError.__new__"&&(!cd.hasDel&&(cd.hasDict&&PySem.HandSPX.refsVE bm)))
  | _,_=>false)
 | _=>false)&&(He.eqO (PySem.W.findIn K (.ref C) "__setattr__") (some (some (.builtin "object.__setattr__")))&&(decide (PySem.W.subIn K (.ref C) (.type "BaseException")=some true)&&(decide (PySem.W.typeIn K (.ref C)=some (.type "type"))&&PySem.W.keepIn K (.ref C))))
theorem ZE {C:Addr} (h:Sd K C=true):OexC K C:=by
 obtain ⟨h1,h⟩:=He.ba h;obtain ⟨h2,h⟩:=He.ba h;obtain ⟨h3,h⟩:=He.ba h;obtain ⟨h4,h5⟩:=He.ba h;refine ⟨?_,He.eqO_ok h2,Ks h3,Ks h4,h5⟩
 split at h1
 ·rename_i dd cd sl ho
  split at h1
  ·rename_i D bm k0 k1 k2 k3 n k5 hm hs;obtain ⟨e1,h1⟩:=He.ba h1;obtain ⟨e2,h1⟩:=He.ba h1;obtain ⟨e3,h1⟩:=He.ba h1;obtain ⟨e4,e5⟩:=He.ba h1;have e1:=Ks e1;have e2:=beq_iff_eq.mp e2;obtain ⟨nm,bs,mro,ns,qn,hd,sn,sb,ab,col,del⟩:=cd;simp only at hm e3 e4;subst e1 e2 hm e4;have e3:del=false:=by simpa using e3
   subst e3;obtain ⟨sl⟩:=sl;simp only at hs;subst hs;exact ⟨nm,qn,ns,bs,bm,sn,sb,ab,col,dd,k0,k1,k2,k3,k5,ho,e5⟩
  ·cases h1
 ·cases h1
theorem _root_.L2.PE.wide {X:Cx} {te:TE} (h:PE X e te):PE X e (fun σ H Q=>∃ Q':VK,te σ H Q'/\∀ v H',Q' v H'->Q v H') :=
 ⟨fun pins s σ H Q I ⟨Q',h1,h2⟩=>thn (h.run pins s σ H Q' I h1) fun v s1 ⟨y,H1,I1,r,q⟩=>⟨y,H1,I1,r,h2 _ _ q⟩⟩
section
variable {X:Cx} {C:Addr} {x:Str} {k:Nat} {e:Expr} {te:TE} {p pos:Pos}
def zi2 (C:Addr) (te:TE):L2.St->Hp->XK->Prop:=fun σ H Q=>te σ H fun y H1=>∀ d,H1 d=none->Q (.ref C) (some d) (upd H1 d (.xd [("kind",y)]))
theorem Z4 (O:OwnI X.prog X.w X.K X.mg X.base x C k) (hr:Room (k+1) X.A) (hg:Gl X x) (he:PE X e te) (zQ:(x == ("__debug__":Str))=false:=by decide)
  (hs:starEach [e] X.env=(false,eval e X.env)::starEach [] X.env:=by rfl) (ff:(backTo pos (starEach [] X.env)).any (·.1)=false:=by rfl):PMk X (.Call (.Name x p) [e] [] pos) (zi2 C te):=by
 obtain ⟨f,fd,h1,h2,h3,h4⟩:=O.ex;have hw:=pmk_oex (p:=p) O.T h1 h2 h3 hr h4 .nil pass0 hg O.gC (pa_cons (hs:=hs) he.wide Qb) zQ hs ff;intro pins s σ H Q I h;refine hw pins s σ H Q I ⟨_,h,fun y H1 q=>?_⟩;refine ⟨by simp,fun a ha=>⟨a,y,rfl,O.T,O.no,Qt,fun dx hd ne=>⟨rfl,dx,[("kind",y)],Qt,?_,?_,?_⟩⟩⟩
 ·rw [upd_ne ne,Qt]
 ·rw [upd_ne ne] at hd; exact hd
 ·have e:upd (del (upd (upd (upd H1 a (exo a C none)) dx (exd dx [("kind",y)])) a (exo a C (some dx))) a) dx (.xd [("kind",y)])=upd H1 dx (.xd [("kind",y)]):=by
   funext b
   by_cases h1:b=dx
   ·subst h1; rw [Qt,Qt]
   ·rw [upd_ne h1,upd_ne h1];by_cases h2:b=a
    ·subst h2; rw [del_same,ha]
    ·rw [del_ne h2,upd_ne h2,upd_ne h1,upd_ne h2]
  rw [e];rw [upd_ne ne] at hd;exact q dx hd
end
abbrev Ru:=Gr × Gr
def Ru.enc (r:Ru):PyData:=.tuple [r.1.enc,r.2.enc]
def Ru.within (r:Ru):List (Tr × Int):=r.1.within++r.2.within
structure Kd where
 n:Str
 w:Bool
 rs:List Ru
abbrev Bk:=List Kd
abbrev Bk.names (b:Bk):List Str:=b.map (·.n)
variable {b:Bk} {r:Ru} {ρ:Str->Lad} {bs:List (Tr × Int)} {aU:List (Key × V)} {o:Lad} {ls:List Lad}
def Kd.xy (k:Kd):PyData:=.tuple (k.rs.map Ru.enc)
def Bk.get (b:Bk) (n:Str):Option Kd:=b.find? fun k=>decide (k.n=n)
def eW (r:Ru):Prop:=r.1.Ok 1000000001/\r.2.Ok 1000000001/\r.1.parts+r.2.parts<=4
def XH (ns:List Str) (k:Kd):Prop:=dN k.n/\k.rs.length<=4/\∀ r ∈ k.rs,eW r/\∀ p ∈ Ru.within r,p.1.1 ∈ ns
structure Bk.Ok (b:Bk):Prop where
 pos:1<=b.length
 len:b.length<=8
 nd:b.names.Nodup
 kd:∀ k ∈ b,XH b.names k
theorem Ru.af (r:Ru):gJ (Ru.enc r)=true:=by simp [Ru.enc,gJ,kT,Gr.af]
theorem Kd.eT (k:Kd):gJ k.xy=true:=by
 unfold Kd.xy gJ
 induction k.rs with
 | nil=>rfl
 | cons r l ih=>rw [Ky,kT,Ru.af,ih]; rfl
theorem Bk.get_some {n:Str} {k:Kd} (h:b.get n=some k):k ∈ b/\k.n=n :=
 ⟨List.mem_of_find?_eq_some h,Ks (List.find?_some (p:=fun k:Kd=>decide (k.n=n)) h)⟩
theorem Bk.get_none {n:Str} (h:b.get n=none):n ∉ b.names:=fun z=>by
 obtain ⟨k,hk,e⟩:=Qx z;have:=List.find?_eq_none.mp h k hk;exact this (Ya e)
theorem Bk.d8 {n:Str} (h:n ∈ b.names):∃ k,b.get n=some k:=by
 cases e:b.get n with
 | none=>exact absurd h (Bk.get_none e)
 | some k=>exact ⟨k,Ja⟩
theorem Bk.gI (nd:b.names.Nodup) {k:Kd} (hk:k ∈ b):b.get k.n=some k:=by
 induction b with
 | nil=>cases hk
 | cons x r ih =>
  have nd':(x.n::Bk.names r).Nodup:=nd;unfold Bk.get;rcases Qv hk with e | e
  ·subst e; rw [List.find?_cons_of_pos (by simp)]
  ·have:¬ x.n=k.n:=fun z=>(List.nodup_cons.mp nd').1 (by rw [z]; exact Ku ⟨k,e,Ja⟩);rw [List.find?_cons_of_neg (by simpa using this)];exact ih (List.nodup_cons.mp nd').2 e
def Bk.jo (b:Bk) (us:List V):List (Key × V):=List.zipWith (fun (k:Kd) (u:V)=>(Sum.inr k.n,u)) b us
def Bk.mZ (b:Bk):List (Key × V):=b.map fun k=>(Sum.inr k.n,V.bl k.w)
theorem Bk.yM (b:Bk) (n:Str):valV b.mZ (Sum.inr n)=(b.get n).map fun k=>V.bl k.w:=by
 induction b with
 | nil=>rfl
 | cons x r ih =>
  by_cases e:x.n=n
  ·subst e;rw [show Bk.mZ (x::r)=(Sum.inr x.n,V.bl x.w)::Bk.mZ r from rfl,valV_pos rfl];simp [Bk.get]
  ·rw [show Bk.mZ (x::r)=(Sum.inr x.n,V.bl x.w)::Bk.mZ r from rfl,valV_neg (by simpa using e),ih];simp [Bk.get,e]
theorem Bk.pL {K:Qn} {H:Hp} (n:Str):∀ {b:Bk} {us:List V},Bears K H Kd.xy us b->∀ {k:Kd},b.get n=some k->∃ u,valV (b.jo us) (Sum.inr n)=some u/\Dp K H u k.xy
 | [],_,_,k,h=>by cases h
 | x::r,_,.cons (v:=u) (vs:=us) h0 h1,k,h=>by
  have e0:Bk.jo (x::r) (u::us)=(Sum.inr x.n,u)::Bk.jo r us:=rfl;by_cases e:x.n=n
  ·subst e;have:x=k:=by simpa [Bk.get] using h
   subst this;exact ⟨u,by rw [e0,valV_pos rfl],h0⟩
  ·have h':Bk.get r n=some k:=by simpa [Bk.get,e] using h
   obtain ⟨v,a,c⟩:=Bk.pL n h1 h';exact ⟨v,by rw [e0,valV_neg (by simpa using e)]; exact a,c⟩
abbrev Xo (d1 d2:Addr):List (Str × V):=[("spread_by_name",.ref d1),("rows_by_name",.ref d2)]
def hJ (K:Qn) (C:Addr) (H:Hp) (v:V) (b:Bk):Prop:=∃ (a dx d1 d2:Addr) (us:List V),v=.ref a/\H a=some (.ins C dx (Xo d1 d2))/\H d1=some (.dK b.mZ)/\H d2=some (.dK (b.jo us))/\Bears K H Kd.xy us b
def x6 (H:Hp) (ps:List Addr):Prop:=∀ p ∈ ps,H p=none\/∃ xs,H p=some (.lst xs)
theorem x6.nil:x6 H []:=fun _ h=>nomatch h
theorem x6.zg {ps:List Addr} (h:x6 H ps) {a:Addr} {o:HO} (e:H a=some o) (n:∀ xs,o ≠ .lst xs):a ∉ ps:=fun z=>by
 rcases h a z with q | ⟨xs,q⟩
 ·rw [e] at q; cases q
 ·rw [e] at q; exact n xs (Yd q)
section
variable {K:Qn} {C:Addr} {H H':Hp} {v:V} {b:Bk} {ps:List Addr}
theorem hJ.sb (h:hJ K C H v b) (e:SB ps H H') (hp:x6 H ps):hJ K C H' v b:=by
 obtain ⟨a,dx,d1,d2,us,rfl,h1,h2,h3,h4⟩:=h;exact ⟨a,dx,d1,d2,us,rfl,e.keep _ _ h1 (hp.zg h1 fun _ z=>nomatch z),e.keep _ _ h2 (hp.zg h2 fun _ z=>nomatch z),e.keep _ _ h3 (hp.zg h3 fun _ z=>nomatch z),h4.sb e Kd.eT⟩
theorem hJ.cH (h:hJ K C H v b) (e:SB [] H H'):hJ K C H' v b:=h.sb e x6.nil
theorem hJ.at (h:hJ K C H v b):∃ a dx d1 d2,v=.ref a/\H a=some (.ins C dx (Xo d1 d2)):=by
 obtain ⟨a,dx,d1,d2,us,e,h1,_⟩:=h;exact ⟨a,dx,d1,d2,e,h1⟩
end
structure ClsF (K:Qn) (C:Addr) (fs:List Str):Prop where
 c:Cls K C
 no:∀ f ∈ fs,NoAttr K C f
def La (K:Qn) (C:Addr):Sp:=fun vs H Q _=>∃ (v:V) (b:Bk),vs=[v]/\hJ K C H v b/\b.length<=1000/\∀ (l:Addr) (H':Hp),SB [] H H'->H l=none->H' l=some (.lst (b.names.map V.str))->Q (.ref l) H'
def Ip (N:Addr) (b:Bk) (n:Str) (H:Hp) (E:XK) (q:Kd->Prop):Prop:=(∀ k,b.get n=some k->q k)/\(b.get n=none->∀ (d:Addr) (H':Hp),SB [] H H'->H d=none->H' d=some (.xd [("kind",.str n)])->E (.ref N) (some d) H')
def QC (K:Qn) (C N:Addr):Sp:=fun vs H Q E=>∃ (v:V) (b:Bk) (n:Str),vs=[v,.str n]/\hJ K C H v b/\b.length<=1000/\Ip N b n H E fun _=>∀ H',SB [] H H'->Q .non H'
def QL (K:Qn) (C N:Addr):Sp:=fun vs H Q E=>∃ (v:V) (b:Bk) (n:Str),vs=[v,.str n]/\hJ K C H v b/\b.length<=1000/\Ip N b n H E fun k=>∀ H',SB [] H H'->Q (.bl k.w) H'
def Qh (K:Qn) (C N:Addr):Sp:=fun vs H Q E=>∃ (v:V) (b:Bk) (n:Str),vs=[v,.str n]/\hJ K C H v b/\b.length<=1000/\(∀ k ∈ b,k.rs.length<=1000) /\
 Ip N b n H E fun k=>∀ (l:Addr) (us:List V) (H':Hp),SB [] H H'->H l=none->H' l=some (.lst us)->Bears K H' Ru.enc us k.rs->Q (.ref l) H'
inductive KT where
 | other
 | three (d:PyData) (w:Option Bool) (rs:Option (List PyData))
def Kd.kt (k:Kd):KT:=.three (.str k.n) (some k.w) (some (k.rs.map Ru.enc))
def JB (K:Qn) (H:Hp) (v:V):KT->Prop
 | .other=>∃ d,Tg K H v d/\∀ ds,d=.tuple ds->ds.length ≠ 3
 | .three d w rs=>∃ (t:Addr) (x y z:V),v=.ref t/\SqT K H t [x,y,z]/\Tg K H x d/\(match w with
   | some b=>y=.bl b
   | none=>∃ n,TyX K H y (.type n)/\kitB n "bool"=some false)/\(match rs with
   | some ds=>∃ (l:Addr) (zs:List V),z=.ref l/\H l=some (.lst zs)/\TgAll K H zs ds
   | none=>∃ n,TyX K H z (.type n)/\kitB n "list"=some false)
def Hy (d:PyData):Prop:=∃ r:Ru,d=Ru.enc r/\eW r
def Sa (d:PyData):Prop:=d.depth<=60/\wide d<=1000/\∀ a b,d=.tuple [a,b]->∀ g:Gr,a=g.enc\/b=g.enc->g.deep<=18/\g.parts<=450
def PN:KT->Prop
 | .other=>True
 | .three d w rs=>∀ ds,rs=some ds->ds.length<=1000/\∀ x ∈ ds,Sa x
def Av (t:KT):Prop:=∃ k:Kd,t=k.kt/\dN k.n/\k.rs.length<=4/\∀ r ∈ k.rs,eW r
def HB (ts:List KT):Prop:=∃ b:Bk,ts=b.map Kd.kt/\Bk.Ok b
inductive KTAll (K:Qn) (H:Hp):List V->List KT->Prop
 | nil:KTAll K H [] []
 | cons {v:V} {t:KT} {vs:List V} {ts:List KT}:JB K H v t->KTAll K H vs ts->KTAll K H (v::vs) (t::ts)
def SH (K:Qn):Sp:=fun vs H Q _=>∃ (v:V) (d:PyData),vs=[v]/\Tg K H v d/\Sa d/\∀ (b:Bool) (H':Hp),SB [] H H'->(b=true ↔ Hy d)->Q (.bl b) H'
def ZQ (K:Qn):Sp:=fun vs H Q _=>∃ (v:V) (t:KT),vs=[v]/\JB K H v t/\PN t/\∀ (b:Bool) (H':Hp),SB [] H H'->(b=true ↔ Av t)->Q (.bl b) H'
def Td (K:Qn):Sp:=fun vs H Q _=>∃ (v:V) (l:Addr) (r:Ru) (ns:List Str),vs=[v,.ref l]/\Dp K H v (Ru.enc r)/\eW r/\SqL K H l (ns.map V.str)/\ns.length<=1000/\∀ H',SB [] H H'->Q (.bl (decide (∀ p ∈ Ru.within r,p.1.1 ∈ ns))) H'
def z6t (K:Qn):Sp:=fun vs H Q _=>∃ (l:Addr) (xs:List V) (ts:List KT),vs=[.ref l]/\SqL K H l xs/\KTAll K H xs ts/\(∀ t ∈ ts,PN t)/\ts.length<=1000/\∀ (b:Bool) (H':Hp),SB [] H H'->(b=true ↔ HB ts)->Q (.bl b) H'
def P4 (K:Qn) (C B:Addr):Sp:=fun vs H Q E=>∃ (x dx l:Addr) (xs:List V) (ts:List KT),vs=[.ref x,.ref l]/\H x=some (.ins C dx [])/\H dx=some (.own x)/\H l=some (.lst xs)/\KTAll K H xs ts/\(∀ t ∈ ts,PN t)/\ts.length<=1000 /\
 (∀ b:Bk,ts=b.map Kd.kt->b.Ok->∀ H',SB [x] H H'->hJ K C H' (.ref x) b->Q .non H')/\(¬ HB ts->∀ H',SB [] H H'->E (.ref B) none H')
theorem ID (n:Str) (zs:List Str):inV (.str n) (zs.map V.str)=decide (n ∈ zs):=by
 induction zs with
 | nil=>rfl
 | cons z r ih =>
  show ((z == n) || inV (.str n) (r.map V.str))=_;rw [ih];by_cases e:z=n
  ·subst e; simp
  ·have e':¬ n=z:=fun y=>e y.symm;rw [show (z == n)=false from beq_eq_false_iff_ne.mpr e,Bool.false_or];by_cases h:n ∈ r <;> simp [h,e']
theorem IG (zs:List Str):(zs.map V.str).all flatV=true:=by simp [flatV]
theorem jk {n:Str} (h:H d=some (.dK aU)) (e:valV aU (Sum.inr n)=some v):DGet H d (.str n) (some v):=.inl ⟨aU,Sum.inr n,.inl h,rfl,e.symm⟩
theorem Bk.vH (b:Bk) (n:Str):decide (n ∈ b.names)=(b.get n).isSome:=by
 cases e:b.get n with
 | none=>simpa using Bk.get_none e
 | some k=>simpa using Ku ⟨k,(Bk.get_some e).1,(Bk.get_some e).2⟩
section
variable {J:It} {n:Nat} {G:Hp->Prop} {Y:Nat->Hp->V->Hp->Prop}
theorem oU (w:Walk J n G Y) {g:TG} {tt:TT} {te:TE} {vs:List Nat} {σ:L2.St} {H:Hp} {D:Addr} {Qd:Hp->Prop} (hD:H D=none) (hn:n < sizeLine) (R:Nat->List V->Hp->Prop) (h0:R 0 [] H) (hG:∀ H2,SB [] H H2->G H2)
  (st:∀ i us H2 H3,SB [D] H2 H3->R i us H2->R i us H3)
  (turn:∀ (Pv:Hp->Prop) i x H2 H' us,i < n->SB [] H H2->Y i H2 x H'->R i us H2->us.length<=i->(∀ y H5,SB [] H2 H5->R (i+1) (us++[y]) H5->∃ acc,H5 D=some (.lst acc)/\acc.length < sizeLine/\Pv (upd H5 D (.lst (acc++[y])))) ->
   (∀ H4,SB [] H2 H4->R (i+1) us H4->Pv H4)->g x (wipe σ vs) H' fun σ2 H3=>wipe σ2 vs=wipe σ vs/\tt σ2 H3 fun b H4 =>
    if b=true then te σ2 H4 fun y H5=>∃ acc,H5 D=some (.lst acc)/\acc.length < sizeLine/\Pv (upd H5 D (.lst (acc++[y]))) else Pv H4)
  (done:∀ us H2,SB [] H H2->H2 D=some (.lst us)->R n us H2->us.length<=n->Qd H2) :
  ∃ W:Nat->Nat->Hp->Prop,(∃ m,W 0 m (upd H D (.lst [])))/\∀ i m H,W i m H ->
   (J.stop i H/\Qd H)\/(J.go i H/\∃ Nx:Hp->Prop,(∀ H',Nx H'->∃ m',m' < m/\W (i+1) m' H')/\∀ x H',J.yld i H x H'->g x (wipe σ vs) H' fun σ2 H2=>wipe σ2 vs=wipe σ vs/\tt σ2 H2 fun b H3 =>
    if b=true then te σ2 H3 fun y H4=>∃ acc,H4 D=some (.lst acc)/\acc.length < sizeLine/\Nx (upd H4 D (.lst (acc++[y]))) else Nx H3):=by
 refine lc_it w (fun i H2=>SB [D] H H2/\∃ us,H2 D=some (.lst us)/\R i us H2/\us.length<=i) ⟨SB.new hD _,[],Qt,st _ _ _ _ (SB.new hD _) h0,Yc _⟩ (fun i H2 _ h=>hG H2 (h.1.drop hD)) (fun i x H2 H' hi h y=>?_) (fun H2 h=>?_)
 ·obtain ⟨s2,us,bj,hR,hl⟩:=h;refine turn _ i x H2 H' us hi (s2.drop hD) y hR hl (fun y H5 s5 r5=>?_) (fun H4 s4 r4=>⟨s2.trans s4.nil,us,s4.keep _ _ bj aL,r4,by omega⟩);have d7:=s5.keep _ _ bj aL;refine ⟨us,d7,by omega,(s2.trans s5.nil).trans (SB.set d7 (by simp) _),_,Qt,st _ _ _ _ (SB.set d7 (by simp) _) r5,?_⟩;rw [Yf,Yi]; omega
 ·obtain ⟨s2,us,bj,hR,hl⟩:=h;exact done us H2 (s2.drop hD) bj hR hl
end
theorem z81:∀ {g:Gr},jU g.enc=true->(∀ p ∈ g.within,p.2 < C)->g.Ok C:=by
 have key:∀ (g:Gr),(∀ p ∈ g.within,p.2 < C)->kr g.encs=true->(KW (g.encs.map pA)=true->g.Ok C):=by
  intro g
  induction g with
  | nil=>intro _ _ _; trivial
  | cons k g m r ihg ihr =>
   intro hb F0 Rx;have zS:∀ p ∈ g.within,p.2 < C:=fun p hp=>hb p (bI _ (gR _ hp));have dv:∀ p ∈ r.within,p.2 < C:=fun p hp=>hb p (bI _ (jr _ hp));have e:(Gr.cons k g m r).encs=Gr.aC ((k,g),m)::r.encs:=rfl;rw [e,kr,Bool.and_eq_true] at F0;rw [e,Ky] at Rx;have hp:jS (.tuple [.tuple [.str k,.tuple g.encs],.int m])=true:=F0.1;rw [jS,pz,Bool.and_eq_true,mR,sk,Bool.and_eq_true,uH,Bool.and_eq_true,jU,Bool.and_eq_true,ud,Bool.and_eq_true] at hp;obtain ⟨⟨hn,⟨RE,hgr⟩,_⟩,hmm,_⟩:=hp;have Mu:dN k:=by
    obtain ⟨z,ez,hz⟩:=S6 hn;cases ez; exact hz
   have Vg:KW (r.encs.map pA)=true:=by
    cases Vh:r.encs with
    | nil=>rfl
    | cons d ds =>
     rw [Vh,Ky] at Rx;have:(dataLt (pA (Gr.aC ((k,g),m))) (pA d)::ltsD (pA d::ds.map pA)).all id=true:=Rx;rw [List.all_cons,Bool.and_eq_true] at this;rw [Ky]; exact this.2
   have hro:=ihr dv F0.2 Vg;refine ⟨Mu,ihg zS RE hgr,Ks hmm,hb _ (bw ..),hro,fun p hpm=>?_⟩;cases r with
   | nil=>cases hpm
   | cons k2 g2 m2 r2 =>
    have CJ:dataLt (Gr.aO (k,g)) (Gr.aO (k2,g2))=true:=by
     have:(dataLt (Gr.aO (k,g)) (Gr.aO (k2,g2))::ltsD (Gr.aO (k2,g2)::r2.encs.map pA)).all id=true:=Rx;rw [List.all_cons,Bool.and_eq_true] at this;exact this.1
    rcases Qv hpm with h | h
    ·subst h; exact CJ
    ·exact Qq CJ (hro.2.2.2.2.2 p h)
 intro g hg hb;rw [Gr.enc,jU,Bool.and_eq_true] at hg;exact key g hb hg.1 hg.2
theorem Lc {C:Int}:∀ {g:Gr},g.Ok C->∀ p ∈ g.within,dN p.1.1/\p.1.2.Ok C/\1<=p.2/\p.2 < C
 | .nil,_,p,h=>by cases h
 | .cons k g m r,⟨h0,h1,h2,h3,h4,_⟩,p,h=>by
  rcases Qv h with h | h
  ·subst h; exact ⟨h0,h1,h2,h3⟩
  ·rcases Qw h with h | h
   ·exact Lc h1 p h
   ·exact Lc h4 p h
theorem Gr.fR {g h:Gr} (e:g.enc=h.enc):g=h:=by
 have:=Gr.a5 g h;rw [e,Gr.a5 h h,Ya rfl] at this;exact Ks this.symm
theorem zen {g h:Gr} (hg:jU g.enc=true) (hh:jU h.enc=true):Hy (.tuple [g.enc,h.enc]) ↔ g.parts+h.parts<=4/\∀ p ∈ g.within++h.within,p.2<=1000000000:=by
 constructor
 ·rintro ⟨r,e,h1,h2,h3⟩
  have e':PyData.tuple [g.enc,h.enc]=.tuple [r.1.enc,r.2.enc]:=e
  injection e' with e'
  injection e' with a e'
  injection e' with b _
  rw [Gr.fR a,Gr.fR b];refine ⟨h3,fun p hp=>?_⟩;rcases Qw hp with hp | hp
  ·have:=(Lc h1 p hp).2.2.2; omega
  ·have:=(Lc h2 p hp).2.2.2; omega
 ·rintro ⟨h1,h2⟩
  exact ⟨(g,h),Ja,z81 hg fun p hp=>by have:=h2 p (gR _ hp); omega,z81 hh fun p hp=>by have:=h2 p (jr _ hp); omega,h1⟩
theorem Y6 {d:PyData} (h:Hy d):∃ g k:Gr,d=.tuple [g.enc,k.enc]/\jU g.enc=true/\jU k.enc=true:=by
 obtain ⟨r,e,h1,h2,_⟩:=h;exact ⟨r.1,r.2,e,QI h1,QI h2⟩
theorem oL:∀ g:Gr,g.deep<=g.parts
 | .nil=>Yc _
 | .cons k g m r=>by
  have h1:=oL g;have h2:=oL r;show max (1+g.deep) r.deep<=1+g.parts+r.parts;omega
theorem Zu:∀ {ds:List PyData},(∀ x ∈ ds,Hy x)->∃ rs:List Ru,ds=rs.map Ru.enc/\∀ r ∈ rs,eW r
 | [],_=>⟨[],rfl,fun _ h=>nomatch h⟩
 | d::ds,h=>by
  obtain ⟨r,e,hr⟩:=h d (bw ..);obtain ⟨rs,e2,vt⟩:=Zu fun x hx=>h x (bI _ hx);refine ⟨r::rs,by rw [e,e2]; rfl,fun x hx=>?_⟩;rcases Qv hx with hx | hx
  ·rw [hx]; exact hr
  ·exact vt x hx
theorem zg7 (h:SqL K H a xs):TyX K H (.ref a) (.type "list"):=by
 rcases h with (h | ⟨o,h⟩) | ⟨o,bV,n,h,c,_⟩
 ·exact .base (.lst h)
 ·exact .base (.frz h)
 ·exact .kList h c
section
variable {K:Qn} {H H':Hp}
theorem YG (e:SB [] H H'):∀ {t:KT} {v:V},JB K H v t->JB K H' v t
 | .other,v,⟨d,h1,h2⟩=>⟨d,AR e h1,h2⟩
 | .three d w rs,v,⟨t,x,y,z,e0,h1,h2,h3,h4⟩=>by
  refine ⟨t,x,y,z,e0,e.aH h1,AR e h2,?_,?_⟩
  ·cases w with
   | some b=>exact h3
   | none =>
    obtain ⟨n,a,b⟩:=h3;exact ⟨n,Ir e (fun _ _=>aL) a,b⟩
  ·cases rs with
   | some ds =>
    obtain ⟨l,zs,e1,h5,h6⟩:=h4;exact ⟨l,zs,e1,e.keep _ _ h5 aL,SY e h6⟩
   | none =>
    obtain ⟨n,a,b⟩:=h4;exact ⟨n,Ir e (fun _ _=>aL) a,b⟩
theorem KTAll.sb (e:SB [] H H'):∀ {vs:List V} {ts:List KT},KTAll K H vs ts->KTAll K H' vs ts
 | _,_,.nil=>.nil
 | _,_,.cons h t=>.cons (YG e h) (KTAll.sb e t)
theorem KTAll.length:∀ {vs:List V} {ts:List KT},KTAll K H vs ts->vs.length=ts.length
 | _,_,.nil=>rfl
 | _,_,.cons h t=>by rw [Yk,Yk,KTAll.length t]
theorem KTAll.get:∀ {vs:List V} {ts:List KT} {i:Nat} {v:V},KTAll K H vs ts->vs[i]?=some v->∃ t,ts[i]?=some t/\JB K H v t
 | _,_,i,v,.nil,h=>by simp at h
 | _,_,0,v,.cons h t,e=>by simp at e; subst e; exact ⟨_,Ja,h⟩
 | _,_,i+1,v,.cons h t,e=>by
  simp at e;obtain ⟨t',e',h'⟩:=KTAll.get (i:=i) t e;exact ⟨t',by simpa using e',h'⟩
theorem YW:∀ {ts:List KT},(∀ t ∈ ts,Av t)->∃ b:Bk,ts=b.map Kd.kt/\∀ k ∈ b,dN k.n/\k.rs.length<=4/\∀ r ∈ k.rs,eW r
 | [],_=>⟨[],rfl,fun _ h=>nomatch h⟩
 | t::ts,h=>by
  obtain ⟨k,e,hk⟩:=h t (bw ..);obtain ⟨b,e2,hb⟩:=YW fun x hx=>h x (bI _ hx);refine ⟨k::b,by rw [e,e2]; rfl,fun x hx=>?_⟩;rcases Qv hx with hx | hx
  ·rw [hx]; exact hk
  ·exact hb x hx
theorem zgv {k j:Kd} (e:k.kt=j.kt):k=j:=by
 obtain ⟨n,w,rs⟩:=k;obtain ⟨n2,w2,pK⟩:=j
 injection e with e1 e2 e3
 injection e1 with e1
 injection e2 with e2
 injection e3 with e3
 have e3:rs.map Ru.enc=pK.map Ru.enc:=e3;have e1:n=n2:=e1;have e2:w=w2:=e2;subst e1 e2;have:rs=pK:=by
  refine (List.map_inj_right ?_).mp e3;intro x y h;have h':PyData.tuple [x.1.enc,x.2.enc]=.tuple [y.1.enc,y.2.enc]:=h
  injection h' with h'
  injection h' with a h'
  injection h' with b _
  exact Prod.ext (Gr.fR a) (Gr.fR b)
 rw [this]
theorem Sq {c:Bk} (e:b.map Kd.kt=c.map Kd.kt):b=c:=(List.map_inj_right (fun _ _=>zgv)).mp e
theorem z4z:∀ {rs:List Ru} {zs:List V},TgAll K H zs (rs.map Ru.enc)->Bears K H Ru.enc zs rs
 | [],_,.nil=>.nil
 | r::rs,_,.cons h t=>by
  refine .cons ?_ (z4z t);cases (h:Tg K H _ (.tuple [r.1.enc,r.2.enc])) with
  | tup hs ha =>
   cases ha with
   | cons h1 ha =>
   cases ha with
   | cons h2 ha =>
   cases ha;cases h1 with
   | tup a1 b1 =>
   cases h2 with
   | tup a2 b2=>exact .tup hs (.cons (.tup a1 (EJ r.1 b1)) (.cons (.tup a2 (EJ r.2 b2)) .nil))
def Jz (K:Qn) (H:Hp) (bad:List Addr) (v:V) (k:Kd):Prop:=∃ (t l:Addr) (zs:List V),v=.ref t/\SqT K H t [.str k.n,.bl k.w,.ref l]/\H l=some (.lst zs)/\Bears K H Ru.enc zs k.rs/\l ∉ bad
theorem zfp {k:Kd} (h:JB K H v k.kt):Jz K H [] v k:=by
 obtain ⟨t,x,y,z,e0,h1,h2,h3,l,zs,rfl,h5,h6⟩:=h;have h3:y=.bl k.w:=h3;subst h3;cases h2;exact ⟨t,l,zs,e0,h1,h5,z4z h6,aL⟩
def dR (H:Hp) (bad ps:List Addr):Prop:=∀ p ∈ ps,p ∈ bad\/∀ xs,H p ≠ some (.lst xs)
theorem dR.nil:dR H bad []:=fun _ z=>nomatch z
theorem dR.self:dR H bad bad:=fun _ z=>.inl z
theorem Jz.sb {k:Kd} {v:V} {ps bad:List Addr} (h:Jz K H bad v k) (e:SB ps H H') (n:dR H bad ps):Jz K H' bad v k:=by
 obtain ⟨t,l,zs,e0,h1,h2,h3,h4⟩:=h;exact ⟨t,l,zs,e0,e.aH h1,e.keep _ _ h2 fun z=>(n _ z).elim h4 fun y=>y _ h2,h3.sb e Ru.af,h4⟩
inductive KdAll (K:Qn) (H:Hp) (bad:List Addr):List V->Bk->Prop
 | nil:KdAll K H bad [] []
 | cons {v:V} {k:Kd} {vs:List V} {b:Bk}:Jz K H bad v k->KdAll K H bad vs b->KdAll K H bad (v::vs) (k::b)
theorem KdAll.sb {ps bad:List Addr} (e:SB ps H H') (n:dR H bad ps):∀ {vs:List V} {b:Bk},KdAll K H bad vs b->KdAll K H' bad vs b
 | _,_,.nil=>.nil
 | _,_,.cons h t=>.cons (h.sb e n) (KdAll.sb e n t)
theorem KdAll.less {bad bad':List Addr} (hb:∀ x ∈ bad',x ∈ bad):∀ {vs:List V} {b:Bk},KdAll K H bad vs b->KdAll K H bad' vs b
 | _,_,.nil=>.nil
 | _,_,.cons ⟨t,l,zs,h1,h2,h3,h4,h5⟩ r=>.cons ⟨t,l,zs,h1,h2,h3,h4,fun z=>h5 (hb l z)⟩ (KdAll.less hb r)
theorem KdAll.append {bad:List Addr}:∀ {xs ys:List V} {bs cs:Bk},KdAll K H bad xs bs->KdAll K H bad ys cs->KdAll K H bad (xs++ys) (bs++cs)
 | _,_,_,_,.nil,h=>h
 | _,_,_,_,.cons a b,h=>.cons a (KdAll.append b h)
theorem KdAll.length {bad:List Addr}:∀ {vs:List V} {ts:Bk},KdAll K H bad vs ts->vs.length=ts.length
 | _,_,.nil=>rfl
 | _,_,.cons h t=>by rw [Yk,Yk,KdAll.length t]
theorem KdAll.get {bad:List Addr}:∀ {vs:List V} {ts:Bk} {i:Nat} {v:V},KdAll K H bad vs ts->vs[i]?=some v->∃ t,ts[i]?=some t/\Jz K H bad v t
 | _,_,i,v,.nil,h=>by simp at h
 | _,_,0,v,.cons h t,e=>by simp at e; subst e; exact ⟨_,Ja,h⟩
 | _,_,i+1,v,.cons h t,e=>by
  simp at e;obtain ⟨t',e',h'⟩:=KdAll.get (i:=i) t e;exact ⟨t',by simpa using e',h'⟩
theorem KTAll.kd:∀ {b:Bk} {vs:List V},KTAll K H vs (b.map Kd.kt)->KdAll K H [] vs b
 | [],_,.nil=>.nil
 | k::b,_,.cons h t=>.cons (zfp h) (KTAll.kd t)
theorem z4y {zs:List V}:∀ {rs:List Ru} {zs:List V},(∀ r ∈ rs,eW r)->Bears K H Ru.enc zs rs->TgAll K H zs (rs.map Ru.enc)
 | [],_,_,.nil=>.nil
 | r::rs,_,ok,.cons h t=>by
  refine .cons ?_ (z4y (zs:=zs) (fun x hx=>ok x (bI _ hx)) t);obtain ⟨o1,o2,_⟩:=ok r (bw ..);cases (h:Dp K H _ (.tuple [r.1.enc,r.2.enc])) with
  | tup hs ha =>
   cases ha with
   | cons h1 ha =>
   cases ha with
   | cons h2 ha =>
   cases ha;exact .tup hs (.cons (ZJ o1 h1) (.cons (ZJ o2 h2) .nil))
theorem KdAll.kt {bad:List Addr}:∀ {b:Bk} {vs:List V},(∀ k ∈ b,dN k.n/\∀ r ∈ k.rs,eW r)->KdAll K H bad vs b->KTAll K H vs (b.map Kd.kt)
 | [],_,_,.nil=>.nil
 | k::b,_,ok,.cons h t=>by
  refine .cons ?_ (KdAll.kt (fun x hx=>ok x (bI _ hx)) t);obtain ⟨t,l,zs,e0,h1,h2,h3,_⟩:=h;obtain ⟨o1,o2⟩:=ok k (bw ..);exact ⟨t,_,_,_,e0,h1,.str _ (zaj o1),Ja,l,zs,Ja,h2,z4y (zs:=zs) o2 h3⟩
theorem zcz (h:eW r):Sa (Ru.enc r):=by
 obtain ⟨h1,h2,h3⟩:=h;have d1:=oL r.1;have d2:=oL r.2;have e1:=r.1.cC;have e2:=r.2.cC;obtain ⟨w1,w2⟩:=QF r.1;obtain ⟨w3,w4⟩:=QF r.2;refine ⟨?_,?_,fun a b e g hg=>?_⟩
 ·show PyData.depth (.tuple [.tuple r.1.encs,.tuple r.2.encs])<=60;simp only [PyData.depth,PyData.depthAll]; omega
 ·show wide (.tuple [.tuple r.1.encs,.tuple r.2.encs])<=1000;simp only [wide,uB,Yk,List.length_nil]; omega
 ·have e':PyData.tuple [r.1.enc,r.2.enc]=.tuple [a,b]:=e
  injection e' with e'
  injection e' with ea e'
  injection e' with eb _
  rcases hg with hg | hg
  ·rw [<- ea] at hg; rw [<- Gr.fR hg]; omega
  ·rw [<- eb] at hg; rw [<- Gr.fR hg]; omega
theorem zci {k:Kd} (h:k.rs.length<=4/\∀ r ∈ k.rs,eW r):PN k.kt:=by
 intro ds e;have e:some (k.rs.map Ru.enc)=some ds:=e
 injection e with e
 subst e;refine ⟨by rw [Ye]; omega,fun x hx=>?_⟩;obtain ⟨r,hr,rfl⟩:=Qx hx;exact zcz (h.2 r hr)
end
section
variable {J:It} {n:Nat} {G:Hp->Prop} {Y:Nat->Hp->V->Hp->Prop}
theorem YX (w:Walk J n G Y) {g:TG} {tt:TT} {tk tv:TE} {vs:List Nat} {σ:L2.St} {H:Hp} {D:Addr} {Qd:Hp->Prop} (hD:H D=none) (hn:n < sizeLine) (R:Nat->List (Key × V)->Hp->Prop) (h0:R 0 [] H) (hG:∀ H2,SB [] H H2->G H2)
  (st:∀ i us H2 H3,SB [D] H2 H3->R i us H2->R i us H3)
  (turn:∀ (Pv:Hp->Prop) i x H2 H' aU,i < n->SB [] H H2->Y i H2 x H'->R i aU H2->aU.length<=i->(∀ k z H5,SB [] H2 H5->R (i+1) (putK aU k z) H5->∃ aU k',kV k=kV k'/\H5 D=some (.dK aU)/\aU.length < sizeLine/\Pv (upd H5 D (.dK (putK aU k' z)))) ->
   (∀ H4,SB [] H2 H4->R (i+1) aU H4->Pv H4)->g x (wipe σ vs) H' fun σ2 H3=>wipe σ2 vs=wipe σ vs/\tt σ2 H3 fun b H4 =>
    if b=true then tk σ2 H4 fun y H5=>tv σ2 H5 fun z H6=>∃ aU k,y=kV k/\H6 D=some (.dK aU)/\aU.length < sizeLine/\Pv (upd H6 D (.dK (putK aU k z))) else Pv H4)
  (done:∀ aU H2,SB [] H H2->H2 D=some (.dK aU)->R n aU H2->aU.length<=n->Qd H2) :
  ∃ W:Nat->Nat->Hp->Prop,(∃ m,W 0 m (upd H D (.dK [])))/\∀ i m H,W i m H ->
   (J.stop i H/\Qd H)\/(J.go i H/\∃ Nx:Hp->Prop,(∀ H',Nx H'->∃ m',m' < m/\W (i+1) m' H')/\∀ x H',J.yld i H x H'->g x (wipe σ vs) H' fun σ2 H2=>wipe σ2 vs=wipe σ vs/\tt σ2 H2 fun b H3 =>
    if b=true then tk σ2 H3 fun y H4=>tv σ2 H4 fun z H5=>∃ aU k,y=kV k/\H5 D=some (.dK aU)/\aU.length < sizeLine/\Nx (upd H5 D (.dK (putK aU k z))) else Nx H3):=by
 refine Fv (body:=fun Nx x H'=>g x (wipe σ vs) H' fun σ2 H2=>wipe σ2 vs=wipe σ vs/\tt σ2 H2 fun b H3 =>
    if b=true then tk σ2 H3 fun y H4=>tv σ2 H4 fun z H5=>∃ aU k,y=kV k/\H5 D=some (.dK aU)/\aU.length < sizeLine/\Nx (upd H5 D (.dK (putK aU k z))) else Nx H3) w (fun i H2=>SB [D] H H2/\∃ aU,H2 D=some (.dK aU)/\R i aU H2/\aU.length<=i)
  ⟨SB.new hD _,[],Qt,st _ _ _ _ (SB.new hD _) h0,Yc _⟩ (fun i H2 _ h=>hG H2 (h.1.drop hD)) (fun i x H2 H' hi h y=>?_) (fun H2 h=>?_)
 ·obtain ⟨s2,aU,bj,hR,hl⟩:=h;refine turn _ i x H2 H' aU hi (s2.drop hD) y hR hl (fun k z H5 s5 r5=>?_) (fun H4 s4 r4=>⟨s2.trans s4.nil,aU,s4.keep _ _ bj aL,r4,by omega⟩);have d7:=s5.keep _ _ bj aL;refine ⟨aU,k,Ja,d7,by omega,(s2.trans s5.nil).trans (SB.lh d7 (by simp) _),_,Qt,st _ _ _ _ (SB.lh d7 (by simp) _) r5,?_⟩;have:=length_putK aU k z;omega
 ·obtain ⟨s2,aU,bj,hR,hl⟩:=h;exact done aU H2 (s2.drop hD) bj hR hl
end
theorem K4 {k:Key} (h:∀ p ∈ aU,p.1 ≠ k):putK aU k v=aU++[(k,v)]:=by
 unfold putK;rw [if_neg];intro z;obtain ⟨p,hp,e⟩:=List.any_eq_true.mp z;exact h p hp (Ks e)
theorem Bk.j8 (nd:b.names.Nodup) {i:Nat} {k:Kd} (h:b[i]?=some k):∀ j ∈ b.take i,j.n ≠ k.n:=by
 intro j hj e;have e1:b.names=(b.take i).map (·.n)++(b.drop i).map (·.n):=by rw [<- Yj,List.take_append_drop]
 rw [e1] at nd;exact (List.nodup_append.mp nd).2.2 j.n (Ku ⟨j,hj,Ja⟩) k.n (Ku ⟨k,List.mem_of_getElem? (i:=0) (by rw [List.getElem?_drop]; exact h),Ja⟩) e
theorem SB.setG {o:HO} {ps:List Addr} (h:H p=some o) (hp:p ∈ ps) (n1:∀ xs,o ≠ .tup xs) (n2:∀ u v,o ≠ .frz u v) (o':HO):SB ps H (upd H p o'):=by
 refine ⟨fun b u e n=>?_,fun b u e=>?_,fun b v u e=>?_,fun b e=>?_⟩
 ·rw [upd_ne (fun (z:b=p)=>n (by rw [z]; exact hp))]; exact e
 ·rw [upd_ne (fun (z:b=p)=>by subst z; rw [h] at e; exact n1 _ (Yd e))]; exact e
 ·rw [upd_ne (fun (z:b=p)=>by subst z; rw [h] at e; exact n2 _ _ (Yd e))]; exact e
 ·by_cases q:b=p
  ·subst q; rw [Qt] at e; cases e
  ·rw [upd_ne q] at e; exact e
theorem z7p:∀ {b:Bk} {us:List V} {p:Key × V},p ∈ b.jo us->∃ j ∈ b,p.1=Sum.inr j.n
 | [],_,p,h=>by cases h
 | k::b,[],p,h=>by cases h
 | k::b,u::us,p,h=>by
  rcases Qv (show p ∈ (Sum.inr k.n,u)::Bk.jo b us from h) with h | h
  ·exact ⟨k,bw ..,by rw [h]⟩
  ·obtain ⟨j,hj,e⟩:=z7p h;exact ⟨j,bI _ hj,e⟩
section
variable {J:It} {n:Nat} {G:Hp->Prop} {Y:Nat->Hp->V->Hp->Prop}
theorem zec (w:Walk J n G Y) (ps:List Addr) {g:TG} {tt:TT} {te:TE} {vs:List Nat} {σ:L2.St} {H:Hp} {D:Addr} {Qd:Hp->Prop} (hD:H D=none) (F0:∀ q ∈ ps,H q ≠ none) (hn:n < sizeLine) (R:Nat->List V->Hp->Prop) (h0:R 0 [] H) (hG:∀ H2,SB ps H H2->G H2)
  (st:∀ i us H2 H3,SB [D] H2 H3->R i us H2->R i us H3)
  (turn:∀ (Pv:Hp->Prop) i x H2 H' us,i < n->SB ps H H2->Y i H2 x H'->R i us H2->us.length<=i->(∀ y H5,SB ps H2 H5->R (i+1) (us++[y]) H5->∃ acc,H5 D=some (.lst acc)/\acc.length < sizeLine/\Pv (upd H5 D (.lst (acc++[y])))) ->
   (∀ H4,SB ps H2 H4->R (i+1) us H4->Pv H4)->g x (wipe σ vs) H' fun σ2 H3=>wipe σ2 vs=wipe σ vs/\tt σ2 H3 fun b H4 =>
    if b=true then te σ2 H4 fun y H5=>∃ acc,H5 D=some (.lst acc)/\acc.length < sizeLine/\Pv (upd H5 D (.lst (acc++[y]))) else Pv H4)
  (done:∀ us H2,SB ps H H2->H2 D=some (.lst us)->R n us H2->us.length<=n->Qd H2) :
  ∃ W:Nat->Nat->Hp->Prop,(∃ m,W 0 m (upd H D (.lst [])))/\∀ i m H,W i m H ->
   (J.stop i H/\Qd H)\/(J.go i H/\∃ Nx:Hp->Prop,(∀ H',Nx H'->∃ m',m' < m/\W (i+1) m' H')/\∀ x H',J.yld i H x H'->g x (wipe σ vs) H' fun σ2 H2=>wipe σ2 vs=wipe σ vs/\tt σ2 H2 fun b H3 =>
    if b=true then te σ2 H3 fun y H4=>∃ acc,H4 D=some (.lst acc)/\acc.length < sizeLine/\Nx (upd H4 D (.lst (acc++[y]))) else Nx H3):=by
 have nD:D ∉ ps:=fun z=>F0 D z hD;have up:∀ {H1 H2:Hp},SB ps H1 H2->SB (D::ps) H1 H2:=fun e=>e.mono fun b hb=>bI _ hb;have up1:∀ {H1 H2:Hp},SB [D] H1 H2->SB (D::ps) H1 H2:=fun e=>e.mono fun b hb=>by rw [Qy hb]; exact bw ..
 refine lc_it w (fun i H2=>SB (D::ps) H H2/\∃ us,H2 D=some (.lst us)/\R i us H2/\us.length<=i) ⟨SB.new hD _,[],Qt,st _ _ _ _ (SB.new hD _) h0,Yc _⟩ (fun i H2 _ h=>hG H2 (h.1.drop hD)) (fun i x H2 H' hi h y=>?_) (fun H2 h=>?_)
 ·obtain ⟨s2,us,bj,hR,hl⟩:=h;refine turn _ i x H2 H' us hi (s2.drop hD) y hR hl (fun y H5 s5 r5=>?_) (fun H4 s4 r4=>⟨s2.trans (up s4),us,s4.keep _ _ bj nD,r4,by omega⟩);have d7:=s5.keep _ _ bj nD;refine ⟨us,d7,by omega,(s2.trans (up s5)).trans (SB.set d7 (by simp) _),_,Qt,st _ _ _ _ (SB.set d7 (by simp) _) r5,?_⟩;rw [Yf,Yi]; omega
 ·obtain ⟨s2,us,bj,hR,hl⟩:=h;exact done us H2 (s2.drop hD) bj hR hl
end
abbrev zgh (K:Qn):V->List V->Hp->VK->Prop:=fun x xs H Q=>∃ a p,∃ ys:List Str,x=.str a/\xs=[.ref p]/\(SqL K H p (ys.map V.str)\/SqT K H p (ys.map V.str))/\(ys.map (·.length)).sum+ys.length*a.length<=16777216/\Q (.str (Txt.join a ys)) H
theorem zck:∀ r:Nat,r < 26->uu.cps.toList[r]?=some (97+r):=by
 have:∀ r:Fin 26,uu.cps.toList[r.val]?=some (97+r.val):=by decide +kernel
 intro r hr;exact this ⟨r,hr⟩
theorem jN.mid {a b:Str} {c:Nat} (ha:jN a n):(a++⟨#[c]⟩++b).cps.toList[n]?=some c:=by
 have e:(a++⟨#[c]⟩++b).cps.toList=a.cps.toList++(c::b.cps.toList):=by show (a.cps++#[c]++b.cps).toList=_; simp
 rw [e,List.getElem?_append_right (by rw [ha.1]; exact Yc _),ha.1,Nat.sub_self]
 rfl
theorem nodup_range {α:Type} {F:Nat->α} {m:Nat} (h:∀ i j,i < m->j < m->i ≠ j->F i ≠ F j):((List.range m).map F).Nodup:=by
 refine List.pairwise_map.mpr (List.Pairwise.imp_of_mem (fun {i j} hi hj hn=>h i j (List.mem_range.mp hi) (List.mem_range.mp hj) hn) List.nodup_range)
section
variable {D:Ends} {σ:L2.St} {H:Hp} {t u:TS} {te:TE} {g:TG} {c:TT}
theorem vV {f:L2.St->Hp->Prop} {r:VK} {b c':L2.St->Hp->Prop} (h:f σ H):tNext ⟨f,r,b,c'⟩ σ H:=h
theorem Bz (h:t { D with nx:=u D } σ H):tSeq t u D σ H:=h
theorem CU (h:te σ H fun x H1=>g x σ H1 D.nx):tAsg te g D σ H:=h
theorem ifI (h:c σ H fun b H1=>if b=true then t D σ H1 else u D σ H1):tIfS c t u D σ H:=h
end
theorem z8r {zs:List Str} (h:∀ z ∈ zs,dN z):SeqAt.shaped (.list (zs.map .str))=true:=by
 have h1:PyData.canLayAll0 (zs.map .str)=true:=by
  induction zs with
  | nil=>simp [PyData.canLayAll0]
  | cons z r ih =>
   rw [Ky,PyData.canLayAll0,ih fun y hy=>h y (bI _ hy)];simp [PyData.canLay0,Gr.fF (h z (bw ..))]
 have h2:PyData.depthAll (zs.map .str)=0:=by
  clear h1 h
  induction zs with
  | nil=>simp [PyData.depthAll]
  | cons z r ih=>rw [Ky,PyData.depthAll,ih]; simp [PyData.depth]
 unfold SeqAt.shaped;rw [PyData.canLay0,h1,Bool.true_and];exact Ya (by simp only [PyData.depth,h2]; omega)
theorem zel (zs:List Str):PyData.eqv (.list (zs.map .str)) (.list [])=decide (zs=[]):=by
 cases zs with
 | nil=>decide +kernel
 | cons z r=>simp [PyData.eqv,PyData.eqvAll]
section
variable {J:It} {n:Nat} {G:Hp->Prop} {Y:Nat->Hp->V->Hp->Prop}
theorem Zo (w:Walk J n G Y) (ps:List Addr) {g:TG} {tt:TT} {te:TE} {vs:List Nat} {σ:L2.St} {H:Hp} {D:Addr} {Qd:Hp->Prop} (hD:H D=none) (F0:∀ q ∈ ps,H q ≠ none) (hn:n < sizeLine) (R:Nat->List V->Hp->Prop) (h0:R 0 [] H) (hG:∀ H2,SB ps H H2->G H2)
  (st:∀ i us H2 H3,SB [D] H2 H3->R i us H2->R i us H3)
  (turn:∀ (Pv:Hp->Prop) i x H2 H' us,i < n->SB ps H H2->Y i H2 x H'->R i us H2->us.length<=i->H2 D=some (.lst us)->(∀ y H5,SB ps H2 H5->R (i+1) (us++[y]) H5->∃ acc,H5 D=some (.lst acc)/\acc.length < sizeLine/\Pv (upd H5 D (.lst (acc++[y])))) ->
   (∀ H4,SB ps H2 H4->R (i+1) us H4->Pv H4)->g x (wipe σ vs) H' fun σ2 H3=>wipe σ2 vs=wipe σ vs/\tt σ2 H3 fun b H4 =>
    if b=true then te σ2 H4 fun y H5=>∃ acc,H5 D=some (.lst acc)/\acc.length < sizeLine/\Pv (upd H5 D (.lst (acc++[y]))) else Pv H4)
  (done:∀ us H2,SB ps H H2->H2 D=some (.lst us)->R n us H2->us.length<=n->Qd H2) :
  ∃ W:Nat->Nat->Hp->Prop,(∃ m,W 0 m (upd H D (.lst [])))/\∀ i m H,W i m H ->
   (J.stop i H/\Qd H)\/(J.go i H/\∃ Nx:Hp->Prop,(∀ H',Nx H'->∃ m',m' < m/\W (i+1) m' H')/\∀ x H',J.yld i H x H'->g x (wipe σ vs) H' fun σ2 H2=>wipe σ2 vs=wipe σ vs/\tt σ2 H2 fun b H3 =>
    if b=true then te σ2 H3 fun y H4=>∃ acc,H4 D=some (.lst acc)/\acc.length < sizeLine/\Nx (upd H4 D (.lst (acc++[y]))) else Nx H3):=by
 have nD:D ∉ ps:=fun z=>F0 D z hD;have up:∀ {H1 H2:Hp},SB ps H1 H2->SB (D::ps) H1 H2:=fun e=>e.mono fun b hb=>bI _ hb;have up1:∀ {H1 H2:Hp},SB [D] H1 H2->SB (D::ps) H1 H2:=fun e=>e.mono fun b hb=>by rw [Qy hb]; exact bw ..
 refine lc_it w (fun i H2=>SB (D::ps) H H2/\∃ us,H2 D=some (.lst us)/\R i us H2/\us.length<=i) ⟨SB.new hD _,[],Qt,st _ _ _ _ (SB.new hD _) h0,Yc _⟩ (fun i H2 _ h=>hG H2 (h.1.drop hD)) (fun i x H2 H' hi h y=>?_) (fun H2 h=>?_)
 ·obtain ⟨s2,us,bj,hR,hl⟩:=h;refine turn _ i x H2 H' us hi (s2.drop hD) y hR hl bj (fun y H5 s5 r5=>?_) (fun H4 s4 r4=>⟨s2.trans (up s4),us,s4.keep _ _ bj nD,r4,by omega⟩);have d7:=s5.keep _ _ bj nD;refine ⟨us,d7,by omega,(s2.trans (up s5)).trans (SB.set d7 (by simp) _),_,Qt,st _ _ _ _ (SB.set d7 (by simp) _) r5,?_⟩;rw [Yf,Yi]; omega
 ·obtain ⟨s2,us,bj,hR,hl⟩:=h;exact done us H2 (s2.drop hD) bj hR hl
end
section
variable {K:Qn} {H H':Hp}
theorem K6 {α:Type} {enc:α->PyData}:∀ {vs:List V} {xs:List α},Bears K H enc vs xs->DpAll K H vs (xs.map enc)
 | _,_,.nil=>.nil
 | _,_,.cons h t=>.cons h (K6 t)
end
theorem z7x {n:Nat}:∀ {ds:List PyData},(∀ d ∈ ds,d.depth<=n)->PyData.depthAll ds<=n
 | [],_=>by simp [PyData.depthAll]
 | d::ds,h=>by
  have h1:=h d (bw ..);have h2:=z7x fun x hx=>h x (bI _ hx);rw [PyData.depthAll]; omega
theorem zbc {d:PyData} (h:plS d=true) (hd:d.depth<=64):SeqAt.shaped d=true:=by
 unfold SeqAt.shaped;rw [Zi d h,Bool.true_and];exact Ya hd
open TL (tl)
theorem AS {t rest:TS} {D:Ends} {σ:L2.St} (R:L2.St->Hp->Prop) (h:∀ nx:L2.St->Hp->Prop,(∀ σ' H',R σ' H'->nx σ' H')->t { D with nx:=nx } σ H) (k:∀ σ' H',R σ' H'->rest D σ' H'):tSeq t rest D σ H:=h (rest D) k
theorem b7 {σ:L2.St} {f:L2.St->Hp->Prop} {r:VK} {b c:L2.St->Hp->Prop} (h:f (σ.set i (some v)) H):gName i v σ H (Ends.mk f r b c).nx:=h
theorem Bk.Ok.two (ok:b.Ok):∀ k ∈ b,k.rs.length<=4/\∀ r ∈ k.rs,eW r:=fun k hk=>⟨(ok.kd k hk).2.1,fun r hr=>((ok.kd k hk).2.2 r hr).1⟩
theorem Bk.Ok.three (ok:b.Ok):∀ k ∈ b,dN k.n/\∀ r ∈ k.rs,eW r:=fun k hk=>⟨(ok.kd k hk).1,(ok.two k hk).2⟩
theorem zbl {C B:Addr} {l:Addr} {E:XK} (hl:H l=some (.lst xs)) (ha:KdAll K H bad xs b) (ok:b.Ok) (k:∀ y H',SB [] H H'->H y=none->hJ K C H' (.ref y) b->Q (.ref y) H') :
  ∀ y dx,H y=none->H dx=none->dx ≠ y->P4 K C B (.ref y::[.ref l]) (upd (upd H dx (.own y)) y (.ins C dx [])) (fun v H2=>v=.non/\Q (.ref y) H2) E:=by
 intro y dx hy Cs vz;have b8:=ok.len;have B6:upd H dx (.own y) y=none:=by rw [upd_ne (fun z=>vz z.symm)]; exact hy
 have t4:=(Jb Cs (.own y)).trans (SB.new B6 (.ins C dx []));have VS:upd (upd H dx (.own y)) y (.ins C dx []) dx=some (.own y):=by rw [upd_ne vz,Qt]
 have yg:upd (upd H dx (.own y)) y (.ins C dx []) y=some (.ins C dx []):=Qt;refine ⟨y,dx,l,xs,b.map Kd.kt,Ja,yg,VS,t4.keep _ _ hl aL,(ha.sb t4 dR.nil).kt ok.three,fun t ht=>?_,by rw [Ye]; omega,fun b' e ok' H5 s5 Nf=>?_,fun z=>absurd ⟨b,rfl,ok⟩ z⟩
 ·obtain ⟨k,hk,rfl⟩:=Qx ht;exact zci (ok.two k hk)
 ·have e:=Sq e;subst e;exact ⟨rfl,k y H5 (((t4.nil (ps:=[y])).trans s5).drop hy) hy Nf⟩
theorem PZ {x:Int} {a b:Nat} (h:x.natAbs < 2 ^ a) (hb:a<=b) (h0:0 < a):x.natAbs.log2 < b:=by
 by_cases e:x.natAbs=0
 ·rw [e]; simp [Nat.log2_zero]; omega
 ·exact Nat.lt_of_lt_of_le ((Nat.log2_lt e).mpr h) hb
open PySem.Froz (SD sObj TxOk addTx tailTx)
structure TxS (P:Program) (w:World) (D:SD) (l:List Str):Prop where
 ok:TxOk P w D l
 nd:l.Nodup
 ris:Ris D.2.2.place.toList
 led:w.params.followText "set-order"=true\/D.2.2.led=true
def hQ (k:Str) (l:List Str):List Str:=if k ∈ l then l else k::l
section
variable {P:Program} {w:World} {A:Around} {E:Value->Shared->Prop} {s:Shared} {D:SD} {l:List Str} {k:Str} {u:Tok} {a:Addr} {T:String}
theorem zbp {es:Array (Int × Value)} {ep:Nat} {t:SetTable} {b:Bool} (r:Ris t.place.toList) (d:w.params.followText "set-order"=true\/t.led=true) :
  Ris (tailTx ep es t b).2.2.place.toList/\(w.params.followText "set-order"=true\/(tailTx ep es t b).2.2.led=true):=by
 unfold tailTx
 split
 ·exact ⟨relayAll_ris ..,d.imp id fun z=>by rw [relayAll_led]; exact z⟩
 ·exact ⟨r,d⟩
theorem TxS.add (F:TxS P w D l) (hk:k ∉ l):TxS P w (addTx (hashStr w k) (.str k u) D) (k::l):=by
 obtain ⟨es,ep,t⟩:=D;have r1:=layNew_ris t es (hashStr w k) (.str k u) F.ris;have d1:=F.led.imp id fun z=>(layNew_led t es (hashStr w k) (.str k u)).trans z;have key:∀ t':SetTable,t'.place=(layNew t es (hashStr w k) (.str k u)).2.1.place->t'.led=(layNew t es (hashStr w k) (.str k u)).2.1.led->∀ WY b,Ris (tailTx ep WY t' b).2.2.place.toList/\(w.params.followText "set-order"=true\/(tailTx ep WY t' b).2.2.led=true) :=
  fun t' e1 e2 WY b=>zbp (by rw [e1]; exact r1) (by rw [e2]; exact d1)
 have z:=key (if (layNew t es (hashStr w k) (.str k u)).2.1.plain=true then { (layNew t es (hashStr w k) (.str k u)).2.1 with plain:=false } else (layNew t es (hashStr w k) (.str k u)).2.1) (by split <;> rfl) (by split <;> rfl) (layNew t es (hashStr w k) (.str k u)).1 (layNew t es (hashStr w k) (.str k u)).2.2.1;exact ⟨PySem.Froz.add_ok u F.ok,List.nodup_cons.mpr ⟨hk,F.nd⟩,z.1,z.2⟩
theorem zbg {Q:Bool->Shared->Prop} (ho:s.heap.get? a=some (sObj T D)) (F:TxOk P w D l) (hk:k ∈ l) (hb:l.length < scanBound) (h:Q false s):wpAny (model P w) A (setAddHashed a (.str k u) (hashStr w k)) Q E s:=by
 obtain ⟨es,ep,t⟩:=D;have hd:(sObj T (es,ep,t)).data=.set es ep t:=rfl;have DK:ElemsOf (strKind P w) es.toList:=F.el;have ri:es.size=l.length:=F.sz;have is0:(strKind P w).is k (.str k u)=true:=PySem.Froz.is_str k u;obtain ⟨j,hj⟩:∃ j,List.findIdx? (fun e=>(strKind P w).is k e.2) es.toList=some j:=by
  cases e:List.findIdx? (fun e=>(strKind P w).is k e.2) es.toList with
  | some j=>exact ⟨j,Ja⟩
  | none =>
   obtain ⟨x,hx,hi⟩:=(F.mem k).mp hk;have:=List.findIdx?_eq_none_iff.mp e x hx;rw [hi] at this;cases this
 unfold setAddHashed setAddHashedIn;refine wpAny_holding (Ke (wpAny_setState_of ho hd F.fit ?_));dsimp only;rw [byScan_of rfl (by rw [ri]; exact hb) DK];simp only [↓reduceIte];unfold setAddByScan;refine Ke (Ke (wpAny_rule (Ke (wpAny_setScan_of (knd:=strKind P w) (k:=k) is0 ho hd F.fit DK ?_))));rw [hj];exact wpAny_pure (wpAny_pure h)
theorem zer {Q:Bool->Shared->Prop} (ho:s.heap.get? a=some (sObj T D)) (F:TxS P w D l) (hb:l.length+1 < scanBound)
  (h:∀ (b:Bool) (h':Heap) (D':SD),Heap.SameBut a s.heap h'->h'.get? a=some (sObj T D')->TxS P w D' (hQ k l)->Q b { s with heap:=h' }):wpAny (model P w) A (setAddHashed a (.str k u) (hashStr w k)) Q E s:=by
 by_cases hk:k ∈ l
 ·refine zbg ho F.ok hk (by omega) (h false s.heap D (Heap.SameBut.refl a s.heap) ho ?_);unfold hQ;rw [if_pos hk];exact F
 ·refine PySem.Froz.add_x ho F.ok hk hb (h true _ _ (Heap.SameBut.update ..) (PySem.Froz.get_upd _ ho rfl) ?_);unfold hQ;rw [if_neg hk];exact F.add hk
end
section
variable {P:Program} {w:World} {A:Around} {E:Value->Shared->Prop} {s:Shared} {D:SD} {l:List Str} {k:Str} {u:Tok} {a:Addr}
theorem zd1 {Q:Value->Shared->Prop} (ho:s.heap.get? a=some (sObj "set" D)) (F:TxS P w D l) (hb:l.length+1 < scanBound)
  (h:∀ (h':Heap) (D':SD),Heap.SameBut a s.heap h'->h'.get? a=some (sObj "set" D')->TxS P w D' (hQ k l)->Q .none { s with heap:=h',toks:=s.toks+1 }):wpAny (model P w) A (call (.builtin "set.add") [.ref a,.str k u]) Q E s:=by
 refine wpAny_call_entry PySem.F.slot_set_add ⟨_,ho,Ja⟩ PySem.F.entry_set_add ?_ (PySem.F.args_set_add_2 _ _);unfold Builtin.«set.add» Builtin.Frozenset.oneOther;simp only [List.isEmpty_nil,bind_assoc];unfold Builtin.Frozenset.addrOf setAdd;refine Ke (wpAny_pure ?_)
 try dsimp only
 refine Ke (wpAny_pure ?_)
 try dsimp only
 refine Ke (wpAny_holding (Ke ((strKind P w).pyHash (k:=k) (PySem.Froz.is_str k u) ?_)));refine zer (s:={ s with toks:=s.toks+1 }) ho F hb fun b h' D' sb o' F'=>?_;refine (?_:wpAny (model P w) _ (ret Value.none) _ E _);exact wpAny_pure ⟨_,Ja,h h' D' sb o' F'⟩
end
def b6 (P:Program) (w:World) (a:Addr) (l:List Str):HO:=.ext fun h=>∃ D:SD,h.get? a=some (sObj "set" D)/\TxS P w D l
theorem z7t {w:World} {l:List Str} {D:SD} (ho:h.get? a=some (sObj "set" D)) (F:TxS P w D l):ObjOk P w H h a (b6 P w a l) :=
 ⟨⟨D,ho,F⟩,⟨_,ho⟩,fun h1 h2 ⟨D',q,F'⟩ k=>⟨D',k _ q,F'⟩⟩
section
variable {X:Cx} {pins:List (Addr × Obj)} {σ:L2.St} {H:Hp} {s:Shared} {l:List Str}
theorem z80 (I:Inv X pins σ H s) (ha:H a=some (b6 X.prog X.w a l)):∃ D:SD,s.heap.get? a=some (sObj "set" D)/\TxS X.prog X.w D l:=(I.hok a _ ha).1
theorem zea {E:Value->Shared->Prop} {k:Str} {u:Tok} {Q:Value->Shared->Prop} (I:Inv X pins σ H s) (ha:H a=some (b6 X.prog X.w a l)) (room:l.length+1 < scanBound)
  (h:∀ s',Inv X pins σ (upd H a (b6 X.prog X.w a (hQ k l))) s'->Q .none s'):wpAny (model X.prog X.w) X.A (call (.builtin "set.add") [.ref a,.str k u]) Q E s:=by
 obtain ⟨D,ho,F⟩:=z80 I ha;refine zd1 ho F room fun h' D' sb o' F'=>?_;exact h _ (I.write (e:=a) (t':=s.toks+1) (by rw [ha]; trivial) (.inl rfl) (fun b o hb hu=>(sb.2 b hb).trans hu) ⟨_,o'⟩ (z7t o' F'))
end
theorem zbi (P:Program) (w:World):TxS P w (#[],0,.fresh 0 0 (!w.params.followText "set-order")) []:=by
 refine ⟨PySem.Froz.TxOk.nil rfl,List.nodup_nil,List.Pairwise.nil,?_⟩;show _\/(!w.params.followText "set-order")=true;cases w.params.followText "set-order"
 ·exact .inr rfl
 ·exact .inl rfl
theorem Z5 {w:World} {k:Str} {v:Value} (h:(strKind P w).is k v=true):∃ tk,v=Value.str k tk:=by
 have h:Value.isStrOf k v=true:=h;cases v <;> simp [Value.isStrOf] at h;exact ⟨_,by rw [h]⟩
theorem Y7:∀ (l:List Value),(∀ v ∈ l,∃ k tk,v=Value.str k tk)->∃ ss:List Str,StrsAre l ss/\∀ k,k ∈ ss ↔ ∃ v ∈ l,∃ tk,v=Value.str k tk
 | [],_=>⟨[],.nil,fun k=>by simp⟩
 | v::r,h=>by
  obtain ⟨k,tk,rfl⟩:=h v (bw ..);obtain ⟨ss,h1,h2⟩:=Y7 r fun x hx=>h x (bI _ hx);refine ⟨k::ss,.cons k tk h1,fun j=>?_⟩;rw [List.mem_cons,h2 j];refine ⟨fun z=>?_,fun ⟨x,hx,t',e⟩=>?_⟩
  ·rcases z with rfl | ⟨x,hx,e⟩
   ·exact ⟨_,bw ..,tk,Ja⟩
   ·exact ⟨x,bI _ hx,e⟩
  ·rcases Qv hx with q | q
   ·rw [q] at e; cases e; exact .inl rfl
   ·exact .inr ⟨x,q,t',e⟩
theorem Zs {α:Type}:∀ {a b:List α},b.Nodup->a.length=b.length->(∀ k,k ∈ b->k ∈ a)->a.Perm b
 | a,[],_,hl,_=>by
  have:a=[]:=List.eq_nil_of_length_eq_zero hl;rw [this]
 | a,x::b,nd,hl,hm=>by
  obtain ⟨p,q,e⟩:=List.append_of_mem (hm x (bw ..));subst e;obtain ⟨n1,n2⟩:=List.nodup_cons.mp nd;have ih:=Zs (a:=p++q) (b:=b) n2 (by simp at hl ⊢; omega) fun k hk=>by
   have hx:k ≠ x:=fun z=>n1 (z ▸ hk);have:=hm k (bI _ hk);simp only [List.mem_append,List.mem_cons] at this ⊢;rcases this with z | z | z
   ·exact .inl z
   ·exact absurd z hx
   ·exact .inr z
  exact List.perm_middle.trans (ih.cons x)
section
variable {P:Program} {w:World} {A:Around} {E:Value->Shared->Prop} {s:Shared} {D:SD} {l:List Str} {a:Addr}
theorem zay {Q:Value->Shared->Prop} (hh:A.handled=none) (ho:s.heap.get? a=some (sObj "set" D)) (F:TxS P w D l) (Wy:l.length < 64)
  (h:∀ (s':Shared) (p:Addr) (out:Array Value) (c:Nat) (ss:List Str),(∀ b o,s.heap.get? b=some o->s'.heap.get? b=some o)->s'.gens=s.gens->s'.os=s.os->s.heap.objs.size<=p->s'.heap.get? p=some (seqObj "list" out c)->StrsAre out.toList ss->ss.Perm l->sortedS ss=true->Q (.ref p) s') :
  wpAny (model P w) A (call (.builtin "sorted") [.ref a]) Q E s:=by
 obtain ⟨es,ep,t⟩:=D;have ri:es.size=l.length:=F.ok.sz;have jQ:es.size < scanBound:=by rw [ri]; unfold scanBound; omega
 refine Calls.call_function_entry kind_sorted plain_sorted entry_sorted (args_sorted1 _) ?_;unfold Builtin.«sorted»;refine wpAny_bind (m:=checkCount "sorted" 1 1 _) (wpAny_pure ?_);refine Ke (collect_set (A:=A.in1) hh ⟨_,ho,Ja,Ja⟩ F.ok.fit jQ F.ris F.led fun s1 vs k1 z1 g1 o1 pm=>?_);have vl:vs.length=l.length:=by rw [pm.length_eq,Ye,Array.length_toList,ri]
 have shape:∀ v ∈ vs,∃ k tk,v=Value.str k tk:=fun v hv=>by
  obtain ⟨e,he,rfl⟩:=Qx (pm.mem_iff.mp hv);obtain ⟨⟨k,hk,_⟩,_⟩:=F.ok.el e he;obtain ⟨tk,q⟩:=Z5 hk;exact ⟨k,tk,q⟩
 obtain ⟨ss,hS,vA⟩:=Y7 vs shape;have hp:ss.Perm l:=by
  refine Zs F.nd (by rw [<- hS.length]; exact vl) fun k hk=>?_;obtain ⟨e,he,hi⟩:=(F.ok.mem k).mp hk;obtain ⟨tk,q⟩:=Z5 hi;exact (vA k).mpr ⟨e.2,pm.mem_iff.mpr (List.mem_map_of_mem he),tk,q⟩
 refine Ke (wpAny_newList ?_ (by rw [vl,sizeLine_eq]; omega));have Xw:(s1.heap.push (seqObj "list" vs.toArray 0)).get? s1.heap.objs.size=some (seqObj "list" vs.toArray 0):=Heap.get?_push_size _ rfl;refine Ke (wpAny_holding (wpAny_call_entry slot_list_sort ⟨_,Xw,Ja⟩ entry_list_sort (list_sort_treeK strKind_oneLt Xw hS.keysOf (fun v1 v2 r e=>keyKind_strs (by rw [<- e]; exact hS)) (by rw [vl]; exact Wy) fun TM p1 p2=>⟨_,Ja,?_⟩) (args_list_sort _)));obtain ⟨By,q1,q2,q3⟩:=sorted_out_str hS p1 p2;obtain ⟨c,hc⟩:=sortedHeap_at (vs:=vs) (out:=(arrOf TM).map (·.2)) Xw;refine wpAny_pure ⟨_,Ja,h _ s1.heap.objs.size _ c By (fun b o e=>?_) g1 o1 z1 hc q1 (q2.trans hp) q3⟩;have e1:=k1 b o e;have lt:=Heap.lt_size e1;show (sortedHeap (s1.heap.push (seqObj "list" vs.toArray 0)) s1.heap.objs.size vs _).get? b=some o;rw [sortedHeap_old (Nat.ne_of_lt lt) (by rw [size_push']; exact Nat.lt_succ_of_lt lt)];exact Heap.get?_push_of_some _ e1
end
section
variable {X:Cx}
def zba (P:Program) (w:World):List V->Hp->VK->Prop:=fun vs H Q=>∃ (a:Addr) (l:List Str),vs=[.ref a]/\H a=some (b6 P w a l)/\l.length < 64/\∀ (ss:List Str) (p:Addr),ss.Perm l->sortedS ss=true->H p=none->Q (.ref p) (upd H p (.lst (ss.map V.str)))
theorem z4t (hc:X.calm=true):CallR X (.builtin "sorted") (zba X.prog X.w):=by
 intro pins s σ H vs us Q I r h;obtain ⟨a,l,rfl,ha,Wy,q⟩:=h;obtain ⟨D,ho,F⟩:=z80 I ha;rw [Vals.ref1 r];refine zay (I.ok.hd hc) ho F Wy fun s' p out c ss kp eg eo hp at' hS pm srt=>?_;have hn:H p=none:=I.hok.fresh hp;have hz:(ss.map V.str).length<=sizeLine:=by rw [Ye,pm.length_eq,sizeLine_eq]; omega
 obtain ⟨h',g',d',tk',UC⟩:=s';have eo:UC=s.os:=eo;subst eo;exact ⟨.ref p,upd H p (.lst (ss.map V.str)),I.call (ch:=[]) (Un.laid kp hp hn) (I.hok.laid kp hp ⟨hz,out.toList,c,vals_of_strs hS,at'⟩) (by rw [show g'=s.gens from eg]; exact I.bare) (fun _ z=>nomatch z),rfl,q ss p pm srt hn⟩
end
section
variable {X:Cx}
def TC (P:Program) (w:World) (wi:TI) (g:TG) (tt:TT) (te:TE) (vs:List Nat):TE:=fun σ H Q=>wi σ H fun J H1=>∀ D,H1 D=none->∃ W:Nat->Nat->Hp->Prop,(∃ m,W 0 m (upd H1 D (b6 P w D [])))/\∀ i m Hi,W i m Hi ->
 (J.stop i Hi/\Q (.ref D) Hi)\/(J.go i Hi/\∃ Nx:Hp->Prop,(∀ H',Nx H'->∃ m',m' < m/\W (i+1) m' H')/\∀ x H',J.yld i Hi x H'->g x (wipe σ vs) H' fun σ2 H2=>wipe σ2 vs=wipe σ vs/\tt σ2 H2 fun b H3 =>
  if b=true then te σ2 H3 fun y H4=>∃ (z:Str) (l:List Str),y=.str z/\H4 D=some (b6 P w D l)/\l.length+1 < scanBound/\Nx (upd H4 D (b6 P w D (hQ z l))) else Nx H3)
theorem YM {elt tg iter:Expr} {ifs:List Expr} {scope:Scope} {own:List (PySem.Str × Nat)} {pos:Pos} {wi:TI} {g:TG} {tt:TT} {te:TE} (hc:X.calm=true) (hN:X.N.Nodup) (hi:PI X tg iter wi) (ok:BlkOk X.N X.env.scope scope own)
  (hg:∀ (s1:Shared) (H1:Hp) (C:Addr) (cl:List (PySem.Str × Addr)) (fp:List Addr),L2.PG (X.blk s1 H1 scope (compEnvC scope cl C X.env) fp) tg g) (ht:∀ (s1:Shared) (H1:Hp) (C:Addr) (cl:List (PySem.Str × Addr)) (fp:List Addr),L2.PTs (X.blk s1 H1 scope (compEnvC scope cl C X.env) fp) ifs tt)
  (he:∀ (s1:Shared) (H1:Hp) (C:Addr) (cl:List (PySem.Str × Addr)) (fp:List Addr),L2.PE (X.blk s1 H1 scope (compEnvC scope cl C X.env) fp) elt te) (hs:∀ x,foldedSetIterable iter X.env x=pure x:=by intro _; rfl) :
  PE X (.SetComp elt [⟨tg,iter,ifs,0⟩] scope pos) (TC X.prog X.w wi g tt te (own.map (·.2))):=by
 refine ⟨fun pins s σ H Q I h=>?_⟩;rw [PpSet.eval_SetComp];have clo:∀ y ∈ scope.names,y.2=.free->∃ c,X.env.cells.lookup y.1=some c:=fun y hy e=>(ok.free y hy e).elim (fun k=>I.ok.has _ (.inl k)) fun k=>I.ok.has _ (.inr k);refine wpAny_comprehension_free (use:=none) rfl hs (closure_ok clo) ok.kind (fun y hy e=>by rw [ok.uniq y hy,e]) (thn (hi.run pins s σ H _ I h) fun xv s1 hx=>thn hx fun itv s2 got=>?_);obtain ⟨it,fp,tn,J,Ha,e0,Ia,Tn,sta,fpa,walk⟩:=got;subst e0;refine PpSet.newSet_ok (newEnv_comp ?_)
 -- the new set,at the heap's end
 generalize eD:s2.heap.objs.size=D;have Ov:Ha D=none:=Ia.hok.fresh (Nat.le_of_eq eD);obtain ⟨W,⟨m0,w0⟩,turn⟩:=walk D Ov;generalize eb:({ s2 with heap:=s2.heap.push { cls:=.type "set",dict:=none,data:=.set #[] 0 (.fresh 0 0 (!X.w.params.followText "set-order")) } }:Shared)=sb;have vw:sb.heap=s2.heap.push { cls:=.type "set",dict:=none,data:=.set #[] 0 (.fresh 0 0 (!X.w.params.followText "set-order")) }:=by rw [<- eb]
 have Ib:Inv X pins σ (upd Ha D (b6 X.prog X.w D [])) sb:=by
  rw [<- eb];refine Ia.laid (t':=s2.toks) (fun b o e=>Heap.get?_push_of_some _ e) (Nat.le_of_eq eD) ?_;rw [<- eD];exact z7t (Heap.get?_push_size _ rfl) (zbi X.prog X.w)
 have low:∀ b ∈ fp,b < s2.heap.objs.size:=fun b hb=>let ⟨o,e,_⟩:=Tn.obj _ _ sta b hb; Heap.lt_size e;have Hj:∀ b ∈ fp,FpOk X pins (upd Ha D (b6 X.prog X.w D [])) b/\b < sb.heap.objs.size:=fun b hb=>by
  refine ⟨⟨?_,(fpa b hb).2⟩,by rw [vw,Heap.size_push]; exact Nat.lt_succ_of_lt (low b hb)⟩;rw [upd_ne (by rw [<- eD]; exact Nat.ne_of_lt (low b hb))];exact (fpa b hb).1
 have stb:tn 0 sb.heap:=Tn.keep _ _ _ sta fun b _ o e=>by rw [vw]; exact Heap.get?_push_of_some _ e
 have Ic:=block_start Ib ok hN Hj;generalize eHb:upd Ha D (b6 X.prog X.w D [])=Hb at Ib Ic w0 Hj;have pg:=hg sb Hb sb.heap.objs.size (cellsFrom (sb.heap.objs.size+1) scope.names (cloFrom X.env.cells scope.names [])) fp;have pt:=ht sb Hb sb.heap.objs.size (cellsFrom (sb.heap.objs.size+1) scope.names (cloFrom X.env.cells scope.names [])) fp;have pe:=he sb Hb sb.heap.objs.size (cellsFrom (sb.heap.objs.size+1) scope.names (cloFrom X.env.cells scope.names [])) fp;show codeAny (model X.prog X.w) X.A (.compStart (.SetComp elt [⟨tg,iter,ifs,0⟩] scope pos) 0 (.ref it) (.ref D) (compEnvC scope (cellsFrom (sb.heap.objs.size+1) scope.names (cloFrom X.env.cells scope.names [])) sb.heap.objs.size X.env)) (compPost (model X.prog X.w) X.A X.xe none (EP X pins σ Q) (.ref D) sb.heap.objs.size) { sb with heap:=pushCells (sb.heap.push { cls:=.type "dict",data:=.dict #[] }) scope.names };have LV:∀ b ∈ fp,Hb b=none:=fun b hb=>(Hj b hb).1.1;generalize ece:compEnvC scope (cellsFrom (sb.heap.objs.size+1) scope.names (cloFrom X.env.cells scope.names [])) sb.heap.objs.size X.env=ce at Ic pg pt pe ⊢;have Hn:ce.locals=sb.heap.objs.size:=by subst ece; rfl
 generalize esc:({ sb with heap:=pushCells (sb.heap.push { cls:=.type "dict",data:=.dict #[] }) scope.names }:Shared)=sc at Ic ⊢;have stc:tn 0 sc.heap:=Tn.keep _ _ _ stb fun b _ o e=>by rw [<- esc]; exact pushCells_keeps _ _ _ _ (Heap.get?_push_of_some _ e)
 -- the block's context
 let XB:Cx:=X.blk sb Hb scope ce fp
 have yL:∀ {τ:L2.St} {G:Hp} {t:Shared},Inv XB [] τ G t->(∀ b ∈ fp,G b=none)->∀ b ∈ fp,FpOk XB [] G b:=fun {τ G t} I' hn b hb =>
  ⟨hn b hb,(I'.ok.exf b hb).1,I'.ok.exfs b hb,.inl hb,fun x c e=>(I'.ok.exf b hb).2 x c e,fun p hp=>absurd (show p ∈ ([]:List (Addr × Obj))++[] from hp) (by simp)⟩
 have loop:codeAny (model X.prog X.w) X.A (.compLoop (.SetComp elt [⟨tg,iter,ifs,0⟩] scope pos) 0 (.ref it) (.ref D) ce) (compPost (model X.prog X.w) X.A X.xe none (EP X pins σ Q) (.ref D) sb.heap.objs.size) sc:=by
  refine PpSet.compLoopS_any (fun n t=>∃ i G,Inv XB [] (wipe σ (own.map (·.2))) G t/\tn i t.heap/\(∀ b ∈ fp,G b=none)/\W i n G) ?_ m0 ⟨0,Hb,Ic,stc,LV,w0⟩
  rintro n t ⟨i,G,It,stt,nt,wt⟩
  rcases turn i n G wt with ⟨ends,qq⟩ | ⟨goes,Nx,hNx,step⟩
  ·refine thnF (Tn.done XB rfl rfl rfl hc i [] t _ G (fun _ _=>False) It (yL It nt) stt ends) fun r t6 ⟨er,I6⟩=>?_;subst er;have I7:Inv X pins σ G t6:=Ib.call' (ch:=fp) I6.os I6.base I6.hok I6.bare fun b hb=>⟨(Hj b hb).1.2.2.2.1,(Hj b hb).1.2.1,(Hj b hb).1.2.2.2.2.1,(Hj b hb).1.2.2.2.2.2⟩;have nC:G sb.heap.objs.size=none:=Hn ▸ (show G ce.locals=none from I6.free);obtain ⟨m,hn,_⟩:=I6.loc;have hn:t6.heap.Ns sb.heap.objs.size m:=Hn ▸ (show t6.heap.Ns ce.locals m from hn);obtain ⟨f0,f1,f2,f3,f4,f5⟩:=Ib.fpOk (Yc _) nC;exact ⟨m,hn,fun RV same=>⟨.ref D,G,I7.turned (t':=t6.toks) (fun b o hb e=>(same.2 b hb).trans e) f0 f1 f3 f4 f5,Ja,qq⟩⟩
  ·refine thnF (Tn.item XB rfl rfl rfl hc i [] t _ G (fun _ _=>False) It (yL It nt) stt goes) fun r t6 ⟨u,er,h6⟩=>?_;subst er;refine thnF h6 fun _ t7 ⟨x,G7,I7,r7,y7,TJ,n7⟩=>?_;have P7:=I7.pinned (yL I7 n7) (Tn.obj _ _ TJ);refine thnF (pg.run _ t7 _ G7 x u _ P7 r7 (step x G7 y7)) fun _ t8 ⟨τ,G8,I8,hw,q8⟩=>?_;refine thnF (pt.run _ t8 τ G8 _ I8 q8) fun b t9 ⟨G9,I9,q9⟩=>?_;have back:∀ {t':Shared} {G':Hp},Inv XB ([]++pinsAt fp t7.heap) τ G' t'->Nx G'->∃ m,m < n/\∃ i G,Inv XB [] (wipe σ (own.map (·.2))) G t'/\tn i t'.heap/\(∀ b ∈ fp,G b=none)/\W i m G:=fun {t' G'} I' nx=>by
    obtain ⟨m',hm,w'⟩:=hNx G' nx;have keep:∀ b ∈ fp,∀ o,t7.heap.get? b=some o->t'.heap.get? b=some o/\G' b=none:=fun b hb o e =>
     have z:=I'.pin (b,o) (jr _ (jr _ (mem_pinsAt hb e)))
     ⟨z.1,z.2.1⟩
    refine ⟨m',hm,i+1,G',(I'.unpinned (pins:=[])).weak (by rw [<- hw,wipe_length]) (fun j v e=>(wipe_some (hw ▸ e)).1),Tn.keep _ _ _ TJ fun b hb o e=>(keep b hb o e).1,fun b hb=>?_,w'⟩;obtain ⟨o,e,_⟩:=Tn.obj _ _ TJ b hb;exact (keep b hb o e).2
   cases b with
   | false=>exact back I9 q9
   | true =>
    refine thnF (pe.run _ t9 τ G9 _ I9 q9) fun z gO ⟨yv,G10,I10,Dm,zz,l0,ey,CH,room,nx⟩=>?_;subst ey;obtain ⟨tk,rfl⟩:=Dm;exact zea (X:=XB) I10 CH room fun kM I11=>back I11 nx
 exact PpSet.codeAny_compStart_set loop (Tn.self X.A 0 _ _ _ stc loop)
end
open PySem.Froz (SD sObj TxOk addTx tailTx)
theorem Zw {k x:Str} {l:List Str}:k ∈ hQ x l ↔ k=x\/k ∈ l:=by
 unfold hQ
 split
 ·rename_i h;exact ⟨.inr,fun z=>z.elim (fun e=>e ▸ h) id⟩
 ·exact List.mem_cons
theorem zcu (x:Str) (l:List Str):(hQ x l).length<=l.length+1:=by
 unfold hQ
 split
 ·omega
 ·simp
theorem z6k:∀ {l:List Str} {p:Str},risingS p l=true->∀ x ∈ l,¬ x.cps.toList < p.cps.toList
 | [],_,_,x,h=>by cases h
 | y::r,p,h,x,hx=>by
  rw [risingS,Bool.and_eq_true,Bool.not_eq_true',ltCps_eq] at h;have h1:¬ y.cps.toList < p.cps.toList:=of_decide_eq_false h.1;rcases Qv hx with e | e
  ·rw [e]; exact h1
  ·exact List.le_trans h1 (z6k h.2 x e)
theorem z8q {x:Str} {r:List Str} (h:sortedS (x::r)=true):sortedS r=true:=by
 cases r with
 | nil=>rfl
 | cons y s =>
  have h:risingS x (y::s)=true:=h;rw [risingS,Bool.and_eq_true] at h;exact h.2
section
variable {J:It} {n:Nat} {G:Hp->Prop} {Y:Nat->Hp->V->Hp->Prop} {P:Program} {w':World}
theorem b6.Du {l:List Str}:(∀ xs,b6 P w' a l ≠ .tup xs)/\∀ u v,b6 P w' a l ≠ .frz u v:=⟨(fun _ z=>nomatch z),(fun _ _ z=>nomatch z)⟩
theorem YS (w:Walk J n G Y) {g:TG} {tt:TT} {te:TE} {vs:List Nat} {σ:L2.St} {H:Hp} {D:Addr} {Qd:Hp->Prop} (hD:H D=none) (hn:n+1 < scanBound) (R:Nat->List Str->Hp->Prop) (h0:R 0 [] H) (hG:∀ H2,SB [] H H2->G H2)
  (st:∀ i us H2 H3,SB [D] H2 H3->R i us H2->R i us H3)
  (turn:∀ (Pv:Hp->Prop) i x H2 H' us,i < n->SB [] H H2->Y i H2 x H'->R i us H2->us.length<=i->(∀ z H5,SB [] H2 H5->R (i+1) (hQ z us) H5->∃ (z':Str) (l:List Str),V.str z=.str z'/\H5 D=some (b6 P w' D l)/\l.length+1 < scanBound/\Pv (upd H5 D (b6 P w' D (hQ z' l)))) ->
   (∀ H4,SB [] H2 H4->R (i+1) us H4->Pv H4)->g x (wipe σ vs) H' fun σ2 H3=>wipe σ2 vs=wipe σ vs/\tt σ2 H3 fun b H4 =>
    if b=true then te σ2 H4 fun y H5=>∃ (z:Str) (l:List Str),y=.str z/\H5 D=some (b6 P w' D l)/\l.length+1 < scanBound/\Pv (upd H5 D (b6 P w' D (hQ z l))) else Pv H4)
  (done:∀ us H2,SB [] H H2->H2 D=some (b6 P w' D us)->R n us H2->us.length<=n->Qd H2) :
  ∃ W:Nat->Nat->Hp->Prop,(∃ m,W 0 m (upd H D (b6 P w' D [])))/\∀ i m Hi,W i m Hi ->
   (J.stop i Hi/\Qd Hi)\/(J.go i Hi/\∃ Nx:Hp->Prop,(∀ H',Nx H'->∃ m',m' < m/\W (i+1) m' H')/\∀ x H',J.yld i Hi x H'->g x (wipe σ vs) H' fun σ2 H2=>wipe σ2 vs=wipe σ vs/\tt σ2 H2 fun b H3 =>
    if b=true then te σ2 H3 fun y H4=>∃ (z:Str) (l:List Str),y=.str z/\H4 D=some (b6 P w' D l)/\l.length+1 < scanBound/\Nx (upd H4 D (b6 P w' D (hQ z l))) else Nx H3):=by
 refine Fv (body:=fun Nx x H'=>g x (wipe σ vs) H' fun σ2 H2=>wipe σ2 vs=wipe σ vs/\tt σ2 H2 fun b H3 =>
    if b=true then te σ2 H3 fun y H4=>∃ (z:Str) (l:List Str),y=.str z/\H4 D=some (b6 P w' D l)/\l.length+1 < scanBound/\Nx (upd H4 D (b6 P w' D (hQ z l))) else Nx H3) w (fun i H2=>SB [D] H H2/\∃ us,H2 D=some (b6 P w' D us)/\R i us H2/\us.length<=i) ⟨SB.new hD _,[],Qt,st _ _ _ _ (SB.new hD _) h0,Yc _⟩ (fun i H2 _ h=>hG H2 (h.1.drop hD)) (fun i x H2 H' hi h y=>?_) (fun H2 h=>?_)
 ·obtain ⟨s2,us,bj,hR,hl⟩:=h;refine turn _ i x H2 H' us hi (s2.drop hD) y hR hl (fun z H5 s5 r5=>?_) (fun H4 s4 r4=>⟨s2.trans s4.nil,us,s4.keep _ _ bj aL,r4,by omega⟩);have d7:=s5.keep _ _ bj aL;have t6:SB [D] H5 (upd H5 D (b6 P w' D (hQ z us))):=SB.setG d7 (by simp) b6.Du.1 b6.Du.2 _;refine ⟨z,us,Ja,d7,by omega,(s2.trans s5.nil).trans t6,_,Qt,st _ _ _ _ t6 r5,?_⟩;have:=zcu z us;omega
 ·obtain ⟨s2,us,bj,hR,hl⟩:=h;exact done us H2 (s2.drop hD) bj hR hl
end
def SR (K:Qn) (C N:Addr):Sp:=fun vs H Q E=>∃ (v:V) (b:Bk) (n:Str),vs=[v,.str n]/\hJ K C H v b/\b.length<=1000/\(∀ k ∈ b,k.rs.length<=1000) /\
 Ip N b n H E fun k=>∀ (l:Addr) (us:List V) (H':Hp),SB [] H H'->H l=none->H' l=some (.lst us)->Bears K H' Ru.enc us ((.nil,.nil)::k.rs)->Q (.ref l) H'
section
variable {M:Model} {A:Around} {E:Value->Shared->Prop} {s:Shared} {env:Env}
theorem zgj {func:Expr} {args:List Expr} {kws:List Keyword} {pos:Pos} {Q:Value->Shared->Prop}
  (h:wpAny M A (eval func env) (fun f s₁=>wpAny M A (callWith pos f [] (backTo pos (starEach args env)) (backToKw pos (keywordEach kws env))) Q E s₁) E s)
  (he:eval (.Call func args kws pos) env=(do callWith pos (<- eval func env) [] (backTo pos (starEach args env)) (backToKw pos (keywordEach kws env))):=by rfl) :
  wpAny M A (eval (.Call func args kws pos) env) Q E s:=by
 rw [he]; exact Ke h
theorem z7c {pos:Pos} {T:String} {rest:List Expr} {kws:List Keyword} {Q:Value->Shared->Prop}
  (h:wpAny M A (spliced (backTo pos (starEach (e::rest) env))) (fun vs s₁=>wpAny M A (evalAll ((backToKw pos (keywordEach kws env)).map (·.2)))
   (fun aU s₂=>wpAny M A (call (.type T) vs (((backToKw pos (keywordEach kws env)).filterMap (·.1)).zip aU)) Q E s₂) E s₁) E s)
  (he:starEach (e::rest) env=(false,eval e env)::starEach rest env)
  (F3:(backTo pos (starEach rest env)).any (·.1)=false)
  (oq:(backToKw pos (keywordEach kws env)).all (·.1.isSome)=true)
  (yi:(backToKw pos (keywordEach kws env)).any (·.1.isNone)=false) :
  wpAny M A (callWith pos (.type T) [] (backTo pos (starEach (e::rest) env)) (backToKw pos (keywordEach kws env))) Q E s:=by
 rw [he] at h ⊢;have h2:(backTo pos ((false,eval e env)::starEach rest env)).any (·.1)=false:=by
  show (false || (backTo pos (starEach rest env)).any (·.1))=false;rw [F3]; rfl
 have h3:backTo pos ((false,eval e env)::starEach rest env)=(false,eval e env)::backTo pos (starEach rest env):=rfl;rw [h3] at h h2 ⊢;unfold callWith;refine Ke (wpAny_holding (wpAny_mono (evalArgs_kwB (Q:=fun a s₁=>wpAny M A (call (.type T) ([]++a.pos) a.kw) Q E s₁) oq h) (fun a s₁ h₁=>Ke (wpAny_standAt ?_)) fun _ _ x=>x));simp only [h2,yi,Bool.or_false];refine Ke (wpAny_pure ?_);exact Ke (wpAny_mono h₁ (fun r s₂ hr=>Ke (wpAny_holding (wpAny_point (wpAny_pure hr)))) fun _ _ x=>x)
end
def HD (K:Qn) (a:Addr):It :=
 ⟨fun i H=>∃ (xs:List V) (x:V),SqL K H a xs/\xs[i]?=some x,
  fun i H v H2=>∃ T x,v=.ref T/\H T=none/\H2=upd H T (.tup [.int ((i+1:Nat):Int),x])/\∀ xs,SqL K H a xs->xs[i]?=some x,
  fun i H=>∃ xs:List V,SqL K H a xs/\xs.length=i⟩
theorem zaw {w:World} (a e it:Addr) (Gp:e ≠ it) (Nl:a ≠ it) (MT:e ≠ a) :
  Turn P w K (.Tuple elts kk wY) (HD K a) [e,it] e (fun i h=>(∃ old,IsEnum h e it ((i+1:Nat):Int) old)/\h.IsListIter it a i) where
 mem:=by simp
 obj:=fun i h st b hb=>by
  obtain ⟨⟨old,he⟩,o,ho,hc,hd⟩:=st;rcases (show b=e\/b=it by simpa using hb) with z | z
  ·rw [z]; exact ⟨_,he,fun v q=>nomatch q⟩
  ·rw [z]; exact ⟨o,ho,fun v q=>by rw [hd] at q; cases q⟩
 keep:=fun i h h2 st k=>let ⟨⟨old,he⟩,hi⟩:=st; ⟨⟨old,k e (by simp) _ he⟩,hi.at fun o q=>k it (by simp) o q⟩
 item:=by
  intro X hP hw hK hc i pins s σ H E I hf st hg;subst hP hw hK;obtain ⟨⟨old,he⟩,hit⟩:=st;obtain ⟨xs,x,hq,hx⟩:=hg;obtain ⟨bV,rv,p,hz⟩:=I.list hq;obtain ⟨u,hu,ru⟩:=rv.get hx;have DK:e < s.heap.objs.size:=Heap.lt_size he;have VC:it < s.heap.objs.size:=by obtain ⟨_,z,_⟩:=hit; exact Heap.lt_size z
  have Dr:=Draws.list (prog:=X.prog) (w:=X.w) (A:=X.A.in1) (I.ok.hd hc) it a Nl bV.toArray;have cZ:i < bV.toArray.size:=by
   have:=(Kq hu).1;simpa using this
  refine wpAny_pyNext_enum_itemC Dr he ⟨hit,p.isList⟩ cZ Gp (by simp [Gp,MT]) fun y h2 tk hy ho jO hT ri hk=>?_;have U1:y=u:=by
   have h3:bV[i]?=some y:=by simpa using hy
   rw [hu] at h3; exact (Yd h3).symm
  subst U1;refine ⟨_,rfl,wpAny_letOwnedTupleGo_enum (s:={ s with heap:=h2,toks:=tk+1 }) ho fun h3 DL sb=>?_⟩;have ou:h3.get? s.heap.objs.size=some { cls:=.type "tuple",data:=.seq #[.int ((i+1:Nat):Int) tk,y] }:=(sb.2 _ (Nat.ne_of_gt DK)).trans hT;have nw:ObjOk X.prog X.w (upd H s.heap.objs.size (.tup [.int ((i+1:Nat):Int),x])) h3 s.heap.objs.size (.tup [.int ((i+1:Nat):Int),x]):=⟨dU,[.int ((i+1:Nat):Int) tk,y],.cons ⟨_,rfl⟩ (.cons ru .nil),⟨_,ou,rfl,_,rfl⟩⟩;have I1:Inv X pins σ (upd H s.heap.objs.size (.tup [.int ((i+1:Nat):Int),x])) { s with heap:=h3,toks:=tk+1 }:=I.turnedNew (ch:=[e,it]) (fun b ob hb z=>(sb.2 b (fun y=>hb (by simp [y]))).trans (hk b ob (fun y=>hb (by simp [y])) (fun y=>hb (by simp [y])) z)) hf (Yc _) nw;refine ⟨.ref s.heap.objs.size,_,I1,Ja,⟨_,x,Ja,I.hok.fresh (Yc _),Ja,fun ys hy=>by rw [I.list_inj hy hq]; exact hx⟩,⟨⟨y,?_⟩,jO.1.at fun o q=>(sb.2 it (Ne.symm Gp)).trans q⟩,fun b hb=>?_⟩
  ·rw [show ((i+1+1:Nat):Int)=((i+1:Nat):Int)+1 by omega]; exact DL
  ·have dv:b < s.heap.objs.size:=by
    rcases (show b=e\/b=it by simpa using hb) with z | z
    ·rw [z]; exact DK
    ·rw [z]; exact VC
   rw [upd_ne (Nat.ne_of_lt dv)]; exact (hf b hb).1
 done:=by
  intro X hP hw hK hc i pins s σ H E I hf st hg;subst hP hw hK;obtain ⟨⟨old,he⟩,hit⟩:=st;obtain ⟨xs,hq,hx⟩:=hg;obtain ⟨bV,rv,p,hz⟩:=I.list hq;obtain ⟨f0,f1,f2,f3,f4,f5⟩:=hf it (by simp);have hl:=rv.length;have Dr:=Draws.list (prog:=X.prog) (w:=X.w) (A:=X.A.in1) (I.ok.hd hc) it a Nl bV.toArray;have hn:bV.toArray.size=i:=by simp; omega
  refine wpAny_pyNext_enum_endD Dr he ⟨by rw [hn]; exact hit,p.isList⟩ fun h2 eb=>⟨rfl,I.turned (t':=s.toks) (fun b o hb z=>eb b o hb z) f0 f1 f3 f4 f5⟩
 self:=fun A i s Q E st h=>let ⟨⟨_,he⟩,_⟩:=st; wpAny_pyIter_enum he h
def zfw (K:Qn) (te:TE):TI:=fun σ H R=>te σ H fun v H1=>∃ a xs,v=.ref a/\SqL K H1 a xs/\R (HD K a) H1
theorem zcd {X:Cx} {ex:Expr} {te:TE} {p pos kp cp:Pos} {ck:Nat} (hg:Gl X "enumerate") (hm:X.mg "enumerate"=none) (he:PE X ex te) (hs:starEach [ex] X.env=(false,eval ex X.env)::starEach [] X.env:=by rfl) :
  PI X (.Tuple elts kk wY) (.Call (.Name "enumerate" p) [ex] [⟨some "start",.Constant (.int 1) ck cp,kp⟩] pos) (zfw X.K te):=by
 refine ⟨fun pins s σ H R I h=>?_⟩;refine zgj (ld_blt I hg hm boot_enumerate (z7c (args_cons (thn (he.run pins s σ H _ I h) fun u s1 ⟨v,H1,I1,r1,q1⟩=>args_nil ?_) hs) hs rfl rfl rfl));obtain ⟨a,xs,ev,hq,q⟩:=q1;subst ev;cases r1;refine kws_cons (thn ((pe_int (X:=X) (i:=1) (j:=ck) (pos:=cp)).run pins s1 σ H1 (fun v H2=>v=.int 1/\H2=H1) I1 ⟨rfl,Ja⟩) fun u s2 ⟨v,H2,I2,r2,q2⟩=>kws_nil ?_);obtain ⟨rfl,rfl⟩:=q2;obtain ⟨t,rfl⟩:∃ t,u=.int 1 t:=r2;obtain ⟨bV,rv,pt,hz⟩:=I2.list hq;have ht:s2.heap.IsList a bV.toArray:=pt.isList;have tE:a < s2.heap.objs.size:=by obtain ⟨_,z,_⟩:=ht; exact Heap.lt_size z
 show wpAny _ _ (call (.type "enumerate") [.ref a] [(Str.ofString "start",.int 1 t)]) _ _ _;refine enum_begins_start (begins_list a bV.toArray) ht (by decide) (by decide) fun h2 pS hit ri hk=>wpAny_pyIter_enum pS ?_;have I3:Inv X pins σ H2 { s2 with heap:=h2 }:=I2.kept (t':=s2.toks) hk;refine ⟨s2.heap.objs.size+1,[s2.heap.objs.size+1,s2.heap.objs.size],_,_,H2,Ja,I3,zaw a (s2.heap.objs.size+1) s2.heap.objs.size (Nat.succ_ne_self _) (Nat.ne_of_lt tE) (Nat.ne_of_gt (Nat.lt_succ_of_lt tE)),⟨⟨.none,pS⟩,⟨_,hit,Ja,Ja⟩⟩,fun b hb=>?_,q⟩;have hle:s2.heap.objs.size<=b:=by
  rcases (show b=s2.heap.objs.size+1\/b=s2.heap.objs.size by simpa using hb) with z | z
  ·rw [z]; exact Nat.le_add_right _ _
  ·rw [z]; exact Yc _
 exact I2.fpOk hle (I2.hok.fresh hle)
theorem zar:Walk (HD K a) xs.length (fun H=>SqL K H a xs) (YPair (fun i=>some (.int ((i+1:Nat):Int))) (fun i=>xs[i]?)):=by
 refine ⟨fun i _ hi q=>⟨xs,xs[i],q,by simp [hi]⟩,fun _ q=>⟨xs,q,Ja⟩,fun i H v H2 _ q y=>?_⟩;obtain ⟨T,x,h1,h2,h3,h4⟩:=y;exact ⟨T,.int ((i+1:Nat):Int),x,h1,h2,h3,Ja,h4 xs q⟩
namespace Gr
def ak:Gr->Nat->List (Pl × Str)
 | .nil,_=>[]
 | .cons k g _ r,i=>(([i],k)::(g.ak 0).map fun x=>(i::x.1,x.2))++r.ak (i+1)
def Et (p:Tr × Int) (i:Nat):List (Pl × Str):=([i],p.1.1)::(p.1.2.ak 0).map fun x=>(i::x.1,x.2)
def aks:List (Tr × Int)->Nat->List (Pl × Str)
 | [],_=>[]
 | p::r,i=>Et p i++aks r (i+1)
theorem An:∀ (g:Gr) (i:Nat),g.ak i=aks g.ps i
 | .nil,_=>rfl
 | .cons k g m r,i=>by show _++r.ak (i+1)=_++aks r.ps (i+1); rw [An r]; rfl
theorem jK:∀ (as bs:List (Tr × Int)) (i:Nat),aks (as++bs) i=aks as i++aks bs (i+as.length)
 | [],bs,i=>by simp [aks]
 | p::r,bs,i=>by
  show Et p i++aks (r++bs) (i+1)=_;rw [jK r bs (i+1)];show _=(Et p i++aks r (i+1))++aks bs (i+(r.length+1));rw [List.append_assoc,show i+1+r.length=i+(r.length+1) by omega]
theorem tU {p:Tr × Int} (h:bs[i]?=some p):aks (bs.take (i+1)) 0=aks (bs.take i) 0++Et p i:=by
 have hl:i < bs.length:=(Kq h).1;rw [Yg,h,jK,Kx,Nat.min_eq_left (by omega),Nat.zero_add];show _++(Et p i++[])=_;rw [Kz]
theorem kA:∀ (g:Gr) (i:Nat),(g.ak i).map (·.2)=g.within.map (·.1.1)
 | .nil,_=>rfl
 | .cons k g m r,i=>by
  have h1:=kA g 0;have h2:=kA r (i+1);show ((([i],k)::(g.ak 0).map fun x=>(i::x.1,x.2))++r.ak (i+1)).map (·.2)=(((k,g),m)::(g.within++r.within)).map (·.1.1);rw [Yj,Ky,List.map_map,h2,Ky,Yj,<- h1]
  rfl
theorem oG (g:Gr) (i:Nat):(g.ak i).length=g.parts:=by
 have:=congrArg List.length (kA g i);rw [Ye,Ye,bZ] at this;exact this
theorem rL:∀ (g:Gr) (i:Nat),∀ x ∈ g.ak i,x.1.length<=g.deep
 | .nil,_,x,h=>by cases h
 | .cons k g m r,i,x,h=>by
  have h1:=rL g 0;have h2:=rL r (i+1);show x.1.length<=max (1+g.deep) r.deep;rcases Qw h with h | h
  ·rcases Qv h with h | h
   ·rw [h]; show 1<=_; omega
   ·obtain ⟨q,hq,rfl⟩:=Qx h;have:=h1 q hq;show q.1.length+1<=_; omega
  ·have:=h2 x h; omega
theorem BS {a b:Str} {g:Gr} {os:List (Option Int)} (h:os ≠ []):lk (a,g) os=lk (b,g) os:=by
 cases os with
 | nil=>exact absurd rfl h
 | cons o r=>rfl
theorem Ap {G:Gr}:∀ (g:Gr) (i:Nat),G.ps.drop i=g.ps->∀ x ∈ g.ak i,A6 x.1 ≠ []/\∃ t:Tr,lk ("",G) (A6 x.1)=some t/\t.1=x.2
 | .nil,_,_,x,h=>by cases h
 | .cons k g m r,i,hd,x,h=>by
  have Bh:G.ps.drop i=((k,g),m)::r.ps:=hd;have hi:G.ps[i]?=some ((k,g),m):=by
   have:=congrArg (·[0]?) Bh;simpa using this
  have hs:ug G (some ((i:Nat):Int))=some (k,g):=by
   show (if (0:Int)<=((i:Nat):Int) then (G.ps[((i:Nat):Int).toNat]?).map (·.1) else none)=_;rw [if_pos (by omega),Int.toNat_natCast,hi]; rfl
  rcases Qw h with h | h
  ·rcases Qv h with h | h
   ·rw [h];refine ⟨by simp [A6],(k,g),?_,Ja⟩;show (ug G (some ((i:Nat):Int))).bind _=_;rw [hs]; rfl
   ·obtain ⟨q,hq,rfl⟩:=Qx h;obtain ⟨n1,t,e1,e2⟩:=Ap (G:=g) g 0 rfl q hq;refine ⟨by simp [A6],t,?_,e2⟩;show (ug G (some ((i:Nat):Int))).bind (fun u=>lk u (A6 q.1))=_;rw [hs];show lk (k,g) (A6 q.1)=some t;rw [BS (b:="") n1,e1]
  ·refine Ap r (i+1) ?_ x h;rw [<- List.drop_drop,Bh]; rfl
theorem Ao (g:Gr):∀ x ∈ g.ak 0,A6 x.1 ≠ []/\∃ t:Tr,lk ("",g) (A6 x.1)=some t/\t.1=x.2:=Ap g 0 rfl
theorem gV:∀ g:Gr,g.deep<=g.parts
 | .nil=>Yc _
 | .cons k g m r=>by
  have h1:=gV g;have h2:=gV r;show max (1+g.deep) r.deep<=1+g.parts+r.parts;omega
end Gr
def Iu (K:Qn) (n:Nat):Sp:=fun vs H Q _=>∃ (v:V) (g:Gr),vs=[v]/\GA K H v g/\g.deep < n/\g.deep<=100/\g.parts<=1000/\∀ (D:Addr) (us:List V) (H':Hp),SB [] H H'->H D=none->H' D=some (.lst us)->Bears K H' Bm us ((g.ak 0).map (·.1))->Q (.ref D) H'
structure Sx where
 n:Str
 i:Nat
 wd:Str
 p:Pl
 k:Str
def Sx.st (s:Sx):PyData:=.tuple [.str s.n,.int (s.i:Int),.str s.wd,Bm s.p]
def Sx.enc (s:Sx):PyData:=.tuple [s.st,.str s.k]
theorem Sx.xA (s:Sx):gJ s.st=true:=by simp [Sx.st,gJ,kT,ye]
theorem Sx.af (s:Sx):gJ s.enc=true:=by simp [Sx.enc,gJ,kT,Sx.xA]
def Bx (n:Str) (i:Nat) (wd:Str) (g:Gr):List Sx:=(g.ak 0).map fun x=>⟨n,i,wd,x.1,x.2⟩
def wc (n:Str) (x:Ru × Nat):List Sx:=Bx n x.2 "once" x.1.1++Bx n x.2 "each" x.1.2
def Kd.steps (k:Kd):List Sx:=(k.rs.zipIdx 1).flatMap (wc k.n)
def nV (rs:List Ru):List Str:=rs.flatMap fun r=>r.within.map (·.1.1)
theorem z7s (n:Str) (i:Nat) (wd:Str) (g:Gr):(Bx n i wd g).map (·.k)=g.within.map (·.1.1):=by
 unfold Bx;rw [List.map_map,<- Gr.kA g 0]; rfl
theorem Iw (n:Str) (i:Nat) (wd:Str) (g:Gr):(Bx n i wd g).length=g.parts:=by
 unfold Bx;rw [Ye,Gr.oG]
theorem zby (n:Str) (x:Ru × Nat):(wc n x).map (·.k)=x.1.within.map (·.1.1):=by
 unfold wc Ru.within;rw [Yj,Yj,z7s,z7s]
theorem zek (n:Str) (x:Ru × Nat):(wc n x).length=x.1.1.parts+x.1.2.parts:=by
 unfold wc;rw [Yf,Iw,Iw]
theorem z5m (n:Str):∀ (rs:List Ru) (i:Nat),((rs.zipIdx i).flatMap (wc n)).map (·.k)=nV rs
 | [],_=>rfl
 | r::rs,i=>by
  rw [List.zipIdx_cons,List.flatMap_cons,Yj,z5m n rs (i+1),zby]
  rfl
theorem Kd.sC (k:Kd):k.steps.map (·.k)=nV k.rs:=z5m _ _ _
theorem YH (n:Str):∀ (xs:List (Ru × Nat)),(∀ x ∈ xs,x.1.1.parts+x.1.2.parts<=4)->(xs.flatMap (wc n)).length<=4*xs.length
 | [],_=>Yc _
 | x::xs,h=>by
  have h1:=YH n xs fun y hy=>h y (bI _ hy);have h2:=h x bw;rw [List.flatMap_cons,Yf,zek,Yk];omega
theorem Kd.pH {k:Kd} (h4:k.rs.length<=4) (h:∀ r ∈ k.rs,eW r):k.steps.length<=16:=by
 have:=YH k.n (k.rs.zipIdx 1) fun x hx=>(h x.1 (by
  have:=List.mem_zipIdx hx;rw [this.2.2]; exact List.getElem_mem _)).2.2
 rw [List.length_zipIdx] at this;show ((k.rs.zipIdx 1).flatMap (wc k.n)).length<=16;omega
def z7y (K:Qn):Sp:=fun vs H Q _=>∃ (n wd:Str) (i:Nat) (v:V) (g:Gr),vs=[.str n,.int (i:Int),.str wd,v]/\GA K H v g/\g.deep < 20/\g.parts<=60/\∀ (l:Addr) (us:List V) (H':Hp),SB [] H H'->H l=none->H' l=some (.lst us)->Bears K H' Sx.enc us (Bx n i wd g)->Q (.ref l) H'
def z7v (K:Qn) (C N:Addr):Sp:=fun vs H Q E=>∃ (v:V) (b:Bk) (n:Str),vs=[v,.str n]/\hJ K C H v b/\b.Ok /\
 Ip N b n H E fun k=>∀ (l:Addr) (us:List V) (H':Hp),SB [] H H'->H l=none->H' l=some (.lst us)->Bears K H' Sx.enc us k.steps->Q (.ref l) H'
structure SrtOf (ss ks:List Str):Prop where
 srt:sortedS ss=true
 nd:ss.Nodup
 mem:∀ x,x ∈ ss ↔ x ∈ ks
theorem z6z {x:Str} {l:List Str} (h:l.Nodup):(hQ x l).Nodup:=by
 unfold hQ
 split
 ·exact h
 ·rename_i hx;exact List.nodup_cons.mpr ⟨hx,h⟩
theorem SrtOf.perm {ss l:List Str} (pm:ss.Perm l) (s:sortedS ss=true) (nd:l.Nodup) (h:∀ x,x ∈ l ↔ x ∈ ks):SrtOf ss ks :=
 ⟨s,pm.nodup_iff.mpr nd,fun x=>pm.mem_iff.trans (h x)⟩
def SG (K:Qn) (C N:Addr):Sp:=fun vs H Q E=>∃ (v:V) (b:Bk) (n:Str),vs=[v,.str n]/\hJ K C H v b/\b.Ok /\
 Ip N b n H E fun k=>∀ (l:Addr) (ss:List Str) (H':Hp),SB [] H H'->H l=none->H' l=some (.lst (ss.map V.str))->SrtOf ss (nV k.rs)->Q (.ref l) H'
theorem Bk.Ok.led (ok:b.Ok) {k:Kd} (hk:k ∈ b):∀ x ∈ nV k.rs,x ∈ b.names:=fun x hx=>by
 obtain ⟨r,hr,hx⟩:=List.mem_flatMap.mp hx;obtain ⟨p,hp,rfl⟩:=Qx hx;exact ((ok.kd k hk).2.2 r hr).2 p hp
theorem Bk.Ok.names {b:Bk} (ok:b.Ok):∀ x ∈ b.names,dN x:=fun x hx=>by
 obtain ⟨k,hk,rfl⟩:=Qx hx;exact (ok.kd k hk).1
def P2 (K:Qn) (x:Addr):Bool:=match K.lookup x with
 | some o=>(match o.cls,o.data with
  | .type t,.seq bV _=>decide (t="tuple")&&decide (bV.toList.length=0)
  | _,_=>false)
 | none=>false
def no2B (K:Qn) (a:Addr):Bool:=match K.lookup a with
 | some o=>(match o.cls,o.data with
  | .type t,.seq bV _=>decide (t="tuple")&&(match bV.toList with
   | [.ref x,.ref y]=>P2 K x&&P2 K y
   | _=>false)
  | _,_=>false)
 | none=>false
theorem z7w {x:Addr} (h:P2 K x=true) (H:Hp):SqT K H x []:=by
 unfold P2 at h
 split at h
 ·rename_i o ho
  split at h
  ·rename_i t bV n hc hd;rw [Bool.and_eq_true,decide_eq_true_eq,decide_eq_true_eq] at h;have hz:bV.size=0:=by simpa using h.2
   have he:bV.toList=[]:=List.length_eq_zero_iff.mp h.2;refine .inr ⟨o,bV,n,ho,by rw [hc,h.1],hd,by rw [hz]; exact Nat.zero_le _,by rw [he]; exact .nil⟩
  ·cases h
 ·cases h
theorem zee (h:no2B K a=true) (H:Hp):Dp K H (.ref a) (Ru.enc (.nil,.nil)):=by
 unfold no2B at h
 split at h
 ·rename_i o ho
  split at h
  ·rename_i t bV n hc hd;rw [Bool.and_eq_true,decide_eq_true_eq] at h;obtain ⟨h1,h2⟩:=h
   split at h2
   ·rename_i x y he;rw [Bool.and_eq_true] at h2;have hz:bV.size=2:=by have:=congrArg List.length he; simpa using this
    have hs:SqT K H a [.ref x,.ref y]:=.inr ⟨o,bV,n,ho,by rw [hc,h1],hd,by rw [hz]; decide,by rw [he]; exact .cons rfl (.cons rfl .nil)⟩;exact .tup hs (.cons (.tup (z7w h2.1 H) .nil) (.cons (.tup (z7w h2.2 H) .nil) .nil))
   ·cases h2
  ·cases h
 ·cases h
namespace Gr
theorem oE (g:Gr):PyData.eqv g.enc (.tuple [])=decide (g=.nil):=by
 cases g with
 | nil=>simp [enc,encs,PyData.eqv,PyData.eqvAll]
 | cons k g m r=>simp [enc,encs,PyData.eqv,PyData.eqvAll]
end Gr
section
variable {σ:L2.St} {H:Hp} {t:TE} {ta tb:TE} {as:TA}
theorem JX {Q:List V->Hp->Prop} (h:t σ H fun x H1=>as σ H1 fun xs H2=>Q (x::xs) H2):tCons t as σ H Q:=h
end
section
variable {X:Cx}
theorem zcx {y:PySem.Str} {py:Pos} {kx vx tg iter:Expr} {ifs:List Expr} {scope:Scope} {own:List (PySem.Str × Nat)} {pos Lq:Pos} {wi:TI} {g:TG} {tt:TT} {tk tv:TE} (hc:X.calm=true) (hN:X.N.Nodup) (hy:X.N[i]?=some y) (hyl:X.env.scope.names.lookup y=some .local)
  (hsw:swapsWith (.DictComp kx vx [⟨tg,iter,ifs,0⟩] scope pos) (some (.Name y py)) Lq.line X.env=pure true) (hi:PI X tg iter wi) (ok:BlkOk X.N X.env.scope scope own)
  (hg:∀ (s:Shared) (H:Hp) (C:Addr) (cl:List (PySem.Str × Addr)) (fp:List Addr),L2.PG (X.blk s H scope (compEnvC scope cl C X.env) fp) tg g) (ht:∀ (s:Shared) (H:Hp) (C:Addr) (cl:List (PySem.Str × Addr)) (fp:List Addr),L2.PTs (X.blk s H scope (compEnvC scope cl C X.env) fp) ifs tt)
  (hk:∀ (s:Shared) (H:Hp) (C:Addr) (cl:List (PySem.Str × Addr)) (fp:List Addr),L2.PE (X.blk s H scope (compEnvC scope cl C X.env) fp) kx tk)
  (he:∀ (s:Shared) (H:Hp) (C:Addr) (cl:List (PySem.Str × Addr)) (fp:List Addr),L2.PE (X.blk s H scope (compEnvC scope cl C X.env) fp) vx tv) (hs:∀ x,foldedSetIterable iter X.env x=pure x:=by intro _; rfl) :
  PS X (.Assign [.Name y py] (.DictComp kx vx [⟨tg,iter,ifs,0⟩] scope pos) Lq) (tAsg (tDc wi g tt tk tv (own.map (·.2))) (gName i)):=by
 refine ⟨fun pins s σ H D I h=>?_⟩;rw [exec_Assign_Name_used _ _ _ _ hsw];refine Ke (wpAny_standAt (Ke ?_));show wpAny _ X.A (do let _ <- comprehension (.DictComp kx vx [⟨tg,iter,ifs,0⟩] scope pos) scope X.env (firstIterPos [⟨tg,iter,ifs,0⟩] pos) newDict false (eval iter X.env) (some (assign (.Name y py) X.env))) _ _ s;have h:tDc wi g tt tk tv (own.map (·.2)) σ H (fun x H1=>gName i x σ H1 D.nx):=h;refine Ke (thn (dc_core (Qf:=fun _ s'=>SP X pins D .next s') hc hN I hi ok hg ht hk he hs h fun L C s' m H' I' q hn f=>?_) fun _ s' hq=>wpAny_pure (wpAny_pure hq));show wpAny _ _ (assign (.Name y py) X.env (.ref L)) _ _ _;refine wpAny_assign_Name (store_ok2 (v:=V.ref L) I' hN hy (.inl hyl) rfl (fun s2 I2 ⟨a,sb,ha⟩=>?_) (.inr hyl));obtain ⟨f0,f1,f2,f3,f4,f5⟩:=f;have haC:C ≠ a:=by
  rcases ha with z | z
  ·rw [z]; exact f1
  ·exact fun e=>f4 y a z e.symm
 refine ⟨m,hn.sameBut sb haC,fun h3 sb3=>?_⟩;exact ⟨_,H',I2.turned (t':=s2.toks) (fun b o hb e=>(sb3.2 b hb).trans e) f0 f1 f3 f4 f5,q⟩
theorem zcg {kx vx:Expr} {gs:List Comprehension} {scope:Scope} {pos py:Pos} {y:PySem.Str} {l:Nat} {env:Env} (hk:env.scope.kind=.function) (hy:env.scope.names.lookup y=some .local) (hl:(py.line == pos.line)=true)
  (ha:(scope.names.any fun (n,k)=>n == y&&(k == .local || k == .cell))=false):swapsWith (.DictComp kx vx gs scope pos) (some (.Name y py)) l env=pure true:=by
 have ky:env.kindOf y=some .local:=hy;have hb:env.blockKind=.function:=by unfold Env.blockKind; rw [hk]; rfl
 unfold swapsWith;simp only [hb,ky,ha,Expr.pos,hl]
 rfl
end
def adj (b:Bk) (n:Str):List Str:=match b.get n with
 | some k=>nV k.rs
 | none=>[]
inductive EndK (b:Bk):Str->Prop
 | mk {n:Str}:(∀ k,k ∈ adj b n->EndK b k)->EndK b n
inductive Rch (b:Bk):Str->Str->Prop
 | one {n k:Str}:k ∈ adj b n->Rch b n k
 | step {n m k:Str}:Rch b n m->k ∈ adj b m->Rch b n k
section
variable {b:Bk}
theorem Y8 {n:Str} {k:Kd} (h:b.get n=some k):adj b n=nV k.rs:=by unfold adj; rw [h]
theorem Dc (ok:b.Ok) {n k:Str} (h:k ∈ adj b n):k ∈ b.names:=by
 unfold adj at h
 split at h
 ·rename_i kd e;exact ok.led (Bk.get_some e).1 k h
 ·cases h
theorem C9 {k:Kd} (ok:b.Ok) (hk:k ∈ b):adj b k.n=nV k.rs:=Y8 (Bk.gI ok.nd hk)
theorem Rch.trans {n m k:Str} (h:Rch b n m) (g:Rch b m k):Rch b n k:=by
 induction g with
 | one e=>exact .step h e
 | step _ e ih=>exact .step ih e
theorem Rch.cons {n m k:Str} (h:m ∈ adj b n) (g:Rch b m k):Rch b n k:=(Rch.one h).trans g
theorem Rch.split {n k:Str} (h:Rch b n k):∃ m,m ∈ adj b n/\(m=k\/Rch b m k):=by
 induction h with
 | one e=>exact ⟨_,e,.inl rfl⟩
 | step _ e ih =>
  obtain ⟨m,hm,h⟩:=ih;refine ⟨m,hm,.inr ?_⟩;rcases h with h | h
  ·rw [h]; exact .one e
  ·exact .step h e
theorem EndK.next {n k:Str} (h:EndK b n) (e:k ∈ adj b n):EndK b k:=by
 cases h with
 | mk h=>exact h k e
theorem EndK.vh {n:Str} (h:EndK b n):¬ Rch b n n:=by
 induction h with
 | mk h ih =>
  intro g;obtain ⟨m,hm,e⟩:=g.split;refine ih m hm ?_;rcases e with e | e
  ·rw [e]; exact g
  ·exact .step e hm
end
inductive LedAll (K:Qn) (H:Hp):List (Key × V)->Bk->Prop
 | nil:LedAll K H [] []
 | cons {l:Addr} {ss:List Str} {k:Kd} {aU:List (Key × V)} {b:Bk}:H l=some (.lst (ss.map V.str))->SrtOf ss (nV k.rs)->LedAll K H aU b->LedAll K H ((Sum.inr k.n,.ref l)::aU) (k::b)
section
variable {K:Qn} {H H':Hp}
theorem LedAll.length:∀ {aU:List (Key × V)} {b:Bk},LedAll K H aU b->aU.length=b.length
 | _,_,.nil=>rfl
 | _,_,.cons _ _ t=>congrArg (·+1) t.length
theorem LedAll.keep (h:∀ l xs,H l=some (.lst xs)->H' l=some (.lst xs)):∀ {aU:List (Key × V)} {b:Bk},LedAll K H aU b->LedAll K H' aU b
 | _,_,.nil=>.nil
 | _,_,.cons a s t=>.cons (h _ _ a) s (LedAll.keep h t)
theorem LedAll.append:∀ {aU kws:List (Key × V)} {b c:Bk},LedAll K H aU b->LedAll K H kws c->LedAll K H (aU++kws) (b++c)
 | _,_,_,_,.nil,h=>h
 | _,_,_,_,.cons a s t,h=>.cons a s (t.append h)
theorem LedAll.val {n:Str} {k:Kd}:∀ {aU:List (Key × V)} {b:Bk},LedAll K H aU b->b.get n=some k->∃ l ss,valV aU (Sum.inr n)=some (.ref l)/\H l=some (.lst (ss.map V.str))/\SrtOf ss (nV k.rs)
 | _,_,.nil,e=>by simp [Bk.get] at e
 | _,_,.cons (l:=l) (ss:=ss) (k:=kk) (b:=bb) a s t,e=>by
  by_cases h:kk.n=n
  ·have e':kk=k:=by
    have:Bk.get (kk::bb) n=some kk:=by simp [Bk.get,h]
    rw [this] at e; exact Yd e
   subst e';exact ⟨l,ss,valV_pos (by rw [h]),a,s⟩
  ·have e':Bk.get bb n=some k:=by
    unfold Bk.get at e;rw [List.find?_cons_of_neg (by simpa using h)] at e;exact e
   obtain ⟨l',By,h1,h2,h3⟩:=t.val e';exact ⟨l',By,by rw [valV_neg (fun z=>h (Sum.inr.inj z))]; exact h1,h2,h3⟩
theorem LedAll.get:∀ {aU:List (Key × V)} {b:Bk} {i:Nat} {p:Key × V},LedAll K H aU b->aU[i]?=some p->∃ k,b[i]?=some k/\p.1=Sum.inr k.n
 | _,_,_,_,.nil,e=>by simp at e
 | _,_,0,_,.cons a s t,e=>by
  obtain rfl:=Yd e;exact ⟨_,Ja,Ja⟩
 | _,_,i+1,_,.cons a s t,e=>t.get (i:=i) e
end
def into (b:Bk) (es:List Str) (n:Str):Bool:=decide (n ∉ es)&&(adj b n).all fun k=>decide (k ∈ es)
def z72 (K:Qn):Sp:=fun vs H Q _=>∃ (d e:Addr) (b:Bk) (es:List Str) (aU:List (Key × V)),vs=[.ref d,.ref e]/\H d=some (.dK aU)/\LedAll K H aU b/\H e=some (.lst (es.map V.str))/\b.Ok/\∀ (l:Addr) (H':Hp),SB [] H H'->H l=none->H' l=some (.lst ((b.names.filter (into b es)).map V.str))->Q (.ref l) H'
def z82 (K:Qn) (C N:Addr):Sp:=fun vs H Q E=>∃ (v:V) (b:Bk),vs=[v]/\hJ K C H v b/\b.Ok/\∀ (l:Addr) (ss:List Str) (H':Hp),SB [] H H'->H l=none->H' l=some (.lst (ss.map V.str))->sortedS ss=true->ss.Nodup->(∀ n,n ∈ ss ↔ n ∈ b.names/\¬ EndK b n)->Q (.ref l) H'
theorem SB.unlock {H':Hp} {od:Obj} {u:HO} (s:SB [] (upd H d (.frz od u)) H') (hd:H d=some u) (n1:∀ xs,u ≠ .tup xs) (n2:∀ o v,u ≠ .frz o v):SB [] H (upd H' d u):=by
 refine ⟨fun b o e _=>?_,fun b xs e=>?_,fun b o v e=>?_,fun b e=>?_⟩
 ·by_cases z:b=d
  ·rw [z,Qt]; rw [z,hd] at e; exact e
  ·rw [upd_ne z]; exact s.keep b o (by rw [upd_ne z]; exact e) aL
 ·have z:b ≠ d:=fun z=>by rw [z,hd] at e; exact n1 _ (Yd e)
  rw [upd_ne z]; exact s.tups b xs (by rw [upd_ne z]; exact e)
 ·have z:b ≠ d:=fun z=>by rw [z,hd] at e; exact n2 _ _ (Yd e)
  rw [upd_ne z]; exact s.frzs b o v (by rw [upd_ne z]; exact e)
 ·have z:b ≠ d:=fun z=>by rw [z,Qt] at e; cases e
  rw [upd_ne z] at e;have:=s.kS b e
  rwa [upd_ne z] at this
theorem zet {ss:List Str} (so:SrtOf ss ks) (p:Str->Bool):ss.all p=ks.all p:=by
 rw [Bool.eq_iff_iff,List.all_eq_true,List.all_eq_true];exact ⟨fun h x hx=>h x ((so.mem x).mpr hx),fun h x hx=>h x ((so.mem x).mp hx)⟩
theorem zjr {n:Str} (h:L2.Rd H d (.dK aU)) (e:valV aU (Sum.inr n)=some v):DGet H d (.str n) (some v):=.inl ⟨aU,Sum.inr n,h,rfl,e.symm⟩
theorem LedAll.sb {K:Qn} {H H':Hp} {ps:List Addr} (e:SB ps H H'):∀ {aU:List (Key × V)} {b:Bk},LedAll K H aU b->(∀ p ∈ aU,∀ q ∈ ps,p.2 ≠ .ref q)->LedAll K H' aU b
 | _,_,.nil,_=>.nil
 | _,_,.cons a s t,h=>.cons (e.keep _ _ a fun z=>h _ bw _ z rfl) s (LedAll.sb e t fun p hp=>h p (bI _ hp))
theorem LedAll.ne {K:Qn} {H:Hp} {q:Addr} (hq:H q=none):∀ {aU:List (Key × V)} {b:Bk},LedAll K H aU b->∀ p ∈ aU,p.2 ≠ .ref q
 | _,_,.nil,p,hp=>by cases hp
 | _,_,.cons a s t,p,hp=>by
  rcases Qv hp with e | e
  ·rw [e];intro z;rw [V.ref.inj z] at a;rw [a] at hq; cases hq
  ·exact LedAll.ne hq t p e
theorem LedAll.keys {K:Qn} {H:Hp}:∀ {aU:List (Key × V)} {b:Bk},LedAll K H aU b->aU.map (·.1)=b.names.map Sum.inr
 | _,_,.nil=>rfl
 | _,_,.cons a s t=>by rw [Ky,LedAll.keys t]; rfl
theorem zag (ok:b.Ok) {es:List Str} (h:b.names.filter (into b es)=[]) {n:Str} (e:EndK b n):n ∈ b.names->n ∈ es:=by
 induction e with
 | @mk n _ ih =>
  intro hn;refine Classical.byContradiction fun z=>?_;have:n ∈ b.names.filter (into b es):=List.mem_filter.mpr ⟨hn,by
   unfold into;rw [Bool.and_eq_true,decide_eq_true_eq,List.all_eq_true];exact ⟨z,fun k hk=>Ya (ih k hk (Dc ok hk))⟩⟩
  rw [h] at this; cases this
section
variable {J:It} {n:Nat} {G:Hp->Prop} {Y:Nat->Hp->V->Hp->Prop}
theorem zf6 (w:Walk J n G Y) {g:TG} {tt:TT} {tk tv:TE} {vs:List Nat} {σ:L2.St} {H:Hp} {D:Addr} {Qd:Hp->Prop} (hD:H D=none) (hn:n < sizeLine) (R:Nat->List (Key × V)->Hp->Prop) (h0:R 0 [] H) (hG:∀ H2,SB [] H H2->G H2)
  (st:∀ i us H2 H3,SB [D] H2 H3->R i us H2->R i us H3)
  (turn:∀ (Pv:Hp->Prop) i x H2 H' aU,i < n->SB [] H H2->Y i H2 x H'->R i aU H2->aU.length<=i->H2 D=some (.dK aU)->(∀ k z H5,SB [] H2 H5->R (i+1) (putK aU k z) H5->∃ aU k',kV k=kV k'/\H5 D=some (.dK aU)/\aU.length < sizeLine/\Pv (upd H5 D (.dK (putK aU k' z)))) ->
   (∀ H4,SB [] H2 H4->R (i+1) aU H4->Pv H4)->g x (wipe σ vs) H' fun σ2 H3=>wipe σ2 vs=wipe σ vs/\tt σ2 H3 fun b H4 =>
    if b=true then tk σ2 H4 fun y H5=>tv σ2 H5 fun z H6=>∃ aU k,y=kV k/\H6 D=some (.dK aU)/\aU.length < sizeLine/\Pv (upd H6 D (.dK (putK aU k z))) else Pv H4)
  (done:∀ aU H2,SB [] H H2->H2 D=some (.dK aU)->R n aU H2->aU.length<=n->Qd H2) :
  ∃ W:Nat->Nat->Hp->Prop,(∃ m,W 0 m (upd H D (.dK [])))/\∀ i m H,W i m H ->
   (J.stop i H/\Qd H)\/(J.go i H/\∃ Nx:Hp->Prop,(∀ H',Nx H'->∃ m',m' < m/\W (i+1) m' H')/\∀ x H',J.yld i H x H'->g x (wipe σ vs) H' fun σ2 H2=>wipe σ2 vs=wipe σ vs/\tt σ2 H2 fun b H3 =>
    if b=true then tk σ2 H3 fun y H4=>tv σ2 H4 fun z H5=>∃ aU k,y=kV k/\H5 D=some (.dK aU)/\aU.length < sizeLine/\Nx (upd H5 D (.dK (putK aU k z))) else Nx H3):=by
 refine Fv (body:=fun Nx x H'=>g x (wipe σ vs) H' fun σ2 H2=>wipe σ2 vs=wipe σ vs/\tt σ2 H2 fun b H3 =>
    if b=true then tk σ2 H3 fun y H4=>tv σ2 H4 fun z H5=>∃ aU k,y=kV k/\H5 D=some (.dK aU)/\aU.length < sizeLine/\Nx (upd H5 D (.dK (putK aU k z))) else Nx H3) w (fun i H2=>SB [D] H H2/\∃ aU,H2 D=some (.dK aU)/\R i aU H2/\aU.length<=i)
  ⟨SB.new hD _,[],Qt,st _ _ _ _ (SB.new hD _) h0,Yc _⟩ (fun i H2 _ h=>hG H2 (h.1.drop hD)) (fun i x H2 H' hi h y=>?_) (fun H2 h=>?_)
 ·obtain ⟨s2,aU,bj,hR,hl⟩:=h;refine turn _ i x H2 H' aU hi (s2.drop hD) y hR hl bj (fun k z H5 s5 r5=>?_) (fun H4 s4 r4=>⟨s2.trans s4.nil,aU,s4.keep _ _ bj aL,r4,by omega⟩);have d7:=s5.keep _ _ bj aL;refine ⟨aU,k,Ja,d7,by omega,(s2.trans s5.nil).trans (SB.lh d7 (by simp) _),_,Qt,st _ _ _ _ (SB.lh d7 (by simp) _) r5,?_⟩;have:=length_putK aU k z;omega
 ·obtain ⟨s2,aU,bj,hR,hl⟩:=h;exact done aU H2 (s2.drop hD) bj hR hl
end
theorem zai (nd:b.names.Nodup) {i:Nat} {k:Kd} (ek:b[i]?=some k):k.n ∉ Bk.names (b.take i):=by
 have e:b=b.take i++k::b.drop (i+1):=by
  have hl:i < b.length:=(Kq ek).1;have:=List.drop_eq_getElem_cons hl;rw [(Kq ek).2] at this;rw [<- this,List.take_append_drop]
 have h:b.names=Bk.names (b.take i)++k.n::Bk.names (b.drop (i+1)):=by
  conv=>lhs; rw [e]
  rw [Bk.names,Yj]; rfl
 rw [h] at nd;exact fun z=>(List.nodup_append.mp nd).2.2 _ z _ bw rfl
variable {K:Qn} {H H':Hp}
mutual
theorem Ys (e:∀ a xs,SqT K H a xs->SqT K H' a xs):∀ (d:PyData) (v:V),gJ d=true->Dp K H v d->Dp K H' v d
 | .none,_,_,h=>by cases h; exact .non
 | .bool b,_,_,h=>by cases h; exact .bl b
 | .int i,_,_,h=>by cases h; exact .int i
 | .str x,_,_,h=>by cases h; exact .str x
 | .list ds,_,n,_=>by simp [gJ] at n
 | .dict ds,_,n,_=>by simp [gJ] at n
 | .tuple ds,_,n,h=>by
  cases h with
  | tup hs ha=>exact .tup (e _ _ hs) (ZT e ds _ (by simpa [gJ] using n) ha)
theorem ZT (e:∀ a xs,SqT K H a xs->SqT K H' a xs):∀ (ds:List PyData) (vs:List V),kT ds=true->DpAll K H vs ds->DpAll K H' vs ds
 | [],_,_,h=>by cases h; exact .nil
 | d::ds,_,n,h=>by
  cases h with
  | cons h1 h2 =>
   simp [kT] at n;exact .cons (Ys e d _ n.1 h1) (ZT e ds _ n.2 h2)
end
theorem Bears.tp {β:Type} {enc:β->PyData} (e:∀ a xs,SqT K H a xs->SqT K H' a xs) (hn:∀ b,gJ (enc b)=true):∀ {xs:List V} {bs:List β},Bears K H enc xs bs->Bears K H' enc xs bs
 | _,_,.nil=>.nil
 | _,_,.cons a b=>.cons (Ys e _ _ (hn _) a) (Bears.tp e hn b)
theorem Zq {D:Addr} {od:Obj} {u:HO} (h:H D=some (.frz od (.dK aU))) (a:Addr) (xs:List V) (s:SqT K H a xs):SqT K (upd H D u) a xs:=by
 rcases s with (s | ⟨o,s⟩) | s
 ·exact .inl (.inl (by rw [upd_ne (fun z=>by rw [z,h] at s; cases s)]; exact s))
 ·exact .inl (.inr ⟨o,by rw [upd_ne (fun z=>by rw [z,h] at s; cases s)]; exact s⟩)
 ·exact .inr s
theorem pC {γ:Type} [DecidableEq γ] (p:γ × Int) (r:List (γ × Int)) (x:γ):sumE (p::r) x=(if p.1=x then p.2 else 0)+sumE r x:=rfl
namespace Gr
def woL (t:Tr) (m:Int):List (Tr × Int)->List (Tr × Int)
 | []=>[]
 | p::r=>if p.1 ≠ t then p::woL t m r else if m < p.2 then (p.1,p.2-m)::woL t m r else woL t m r
theorem sj {t:Tr} {m:Int}:∀ {bs:List (Tr × Int)},(∀ p ∈ bs,p.1 ≠ t)->woL t m bs=bs
 | [],_=>rfl
 | p::r,h=>by
  rw [woL,if_pos (h p (by simp)),sj fun q hq=>h q (by simp [hq])]
theorem mD {t:Tr} {m:Int} (hm:0<=m):∀ {bs:List (Tr × Int)} {p:Tr × Int},p ∈ woL t m bs->∃ q ∈ bs,q.1=p.1/\p.2<=q.2/\(1<=q.2->1<=p.2)
 | [],_,h=>nomatch h
 | q::r,p,h=>by
  rw [woL] at h
  split at h
  ·rcases Qv h with e | h
   ·exact ⟨q,by simp,by rw [e],by rw [e]; exact Kw _,by rw [e]; exact id⟩
   ·obtain ⟨q',h1,h2⟩:=mD hm h; exact ⟨q',by simp [h1],h2⟩
  ·split at h
   ·rcases Qv h with e | h
    ·exact ⟨q,by simp,by rw [e],by rw [e]; show q.2-m<=q.2; omega,by rw [e]; show _->1<=q.2-m; omega⟩
    ·obtain ⟨q',h1,h2⟩:=mD hm h; exact ⟨q',by simp [h1],h2⟩
   ·obtain ⟨q',h1,h2⟩:=mD hm h; exact ⟨q',by simp [h1],h2⟩
theorem iU {t:Tr} {m:Int}:∀ {bs:List (Tr × Int)} {p:Tr × Int},p ∈ woL t m bs->∃ q ∈ bs,q.1=p.1
 | [],_,h=>nomatch h
 | q::r,p,h=>by
  rw [woL] at h
  split at h
  ·rcases Qv h with e | h
   ·exact ⟨q,by simp,by rw [e]⟩
   ·obtain ⟨q',h1,h2⟩:=iU h; exact ⟨q',by simp [h1],h2⟩
  ·split at h
   ·rcases Qv h with e | h
    ·exact ⟨q,by simp,by rw [e]⟩
    ·obtain ⟨q',h1,h2⟩:=iU h; exact ⟨q',by simp [h1],h2⟩
   ·obtain ⟨q',h1,h2⟩:=iU h; exact ⟨q',by simp [h1],h2⟩
theorem si {R:Tr->Tr->Prop} {t:Tr} {m:Int}:∀ {bs:List (Tr × Int)},bs.Pairwise (fun p q=>R p.1 q.1)->(woL t m bs).Pairwise (fun p q=>R p.1 q.1)
 | [],_=>.nil
 | p::r,h=>by
  obtain ⟨h1,h2⟩:=List.pairwise_cons.mp h;have ih:=si (t:=t) (m:=m) h2;have hk:∀ q ∈ woL t m r,R p.1 q.1:=fun q hq=>by
   obtain ⟨q',rq,e⟩:=iU hq;rw [<- e]; exact h1 q' rq
  rw [woL]
  split
  ·exact List.pairwise_cons.mpr ⟨hk,ih⟩
  ·split
   ·exact List.pairwise_cons.mpr ⟨hk,ih⟩
   ·exact ih
theorem vZ (t:Tr) (m:Int):∀ bs:List (Tr × Int),tot (woL t m bs)<=tot bs
 | []=>Yc _
 | p::r=>by
  have ih:=vZ t m r;rw [woL]
  split
  ·simp only [tot]; omega
  ·split
   ·simp only [tot]; omega
   ·simp only [tot]; omega
theorem su {t:Tr} {m:Int} (x:Tr):∀ {bs:List (Tr × Int)},bs.Pairwise (fun p q=>p.1 ≠ q.1)->(∀ p ∈ bs,0 < p.2)->0<=m->sumE (woL t m bs) x=if x=t then (if m < sumE bs t then sumE bs t-m else 0) else sumE bs x
 | [],_,_,hm=>by
  show (0:Int)=if x=t then (if m < 0 then 0-m else 0) else 0
  split
  ·rw [if_neg (by omega)]
  ·rfl
 | p::r,h,hp,hm=>by
  obtain ⟨h1,h2⟩:=List.pairwise_cons.mp h;have ih:=su (t:=t) (m:=m) x h2 (fun q hq=>hp q (by simp [hq])) hm;rw [woL];by_cases e:p.1=t
  ·rw [if_neg (by simpa using e)];have hr:∀ q ∈ r,q.1 ≠ t:=fun q hq z=>h1 q hq (by rw [e,z]);have z0:sumE r t=0:=jM hr;rw [sj hr,pC p r t,if_pos e,z0,Int.add_zero];by_cases cZ:m < p.2
   ·rw [if_pos cZ,if_pos cZ,pC];by_cases hx:x=t
    ·rw [if_pos hx,hx,if_pos (by exact e),z0]; simp
    ·rw [if_neg hx,if_neg (by rw [e]; exact fun z=>hx z.symm),pC,if_neg (by rw [e]; exact fun z=>hx z.symm)]
   ·rw [if_neg cZ,if_neg cZ];by_cases hx:x=t
    ·rw [if_pos hx,hx,z0]
    ·rw [if_neg hx,pC,if_neg (by rw [e]; exact fun z=>hx z.symm),Int.zero_add]
  ·rw [if_pos e,pC,ih,pC p r t,if_neg e,Int.zero_add];by_cases hx:x=t
   ·rw [if_pos hx,if_pos hx,hx,if_neg e,Int.zero_add]
   ·rw [if_neg hx,if_neg hx,pC]
def wo (g:Gr) (t:Tr) (m:Int):Gr:=ofPs (woL t m g.ps)
theorem yw (g:Gr) (t:Tr) (m:Int):(wo g t m).ps=woL t m g.ps:=aK _
variable {C D E:Int} {g k:Gr}
theorem Dq (h:g.Ok C):g.ps.Pairwise (fun p q=>p.1 ≠ q.1):=(aV.mp h).2.imp fun z=>YE z
theorem vg (h:g.Ok C):∀ p ∈ g.ps,0 < p.2:=fun p hp=>by have:=((aV.mp h).1 p hp).2.2.1; omega
theorem g6 (h:g.Ok C) {t:Tr} {m:Int} (hm:0<=m):(wo g t m).Ok C:=by
 obtain ⟨h1,h2⟩:=aV.mp h;refine eF.mpr ⟨fun p hp=>?_,si (R:=fun a b=>dataLt (aO a) (aO b)=true) h2⟩;obtain ⟨q,hq,e,l,o⟩:=mD hm hp;obtain ⟨a,b,c,d⟩:=h1 q hq;rw [<- e];exact ⟨a,b,o c,by omega⟩
theorem Hv (h:g.Ok C) {t:Tr} {m:Int} (hm:0<=m) (x:Tr):S (wo g t m) x=if x=t then (if m < S g t then S g t-m else 0) else S g x:=by
 show sumE (wo g t m).ps x=_;rw [yw]; exact su x (Dq h) (vg h) hm
theorem sh (g:Gr) (t:Tr) (m:Int):(wo g t m).parts<=g.parts:=by
 rw [wo,aP,<- jw g]; exact vZ _ _ _
theorem vY (g:Gr) (t:Tr) (m:Int):(wo g t m).deep<=g.deep:=by
 refine i9 fun p hp=>?_;rw [yw] at hp;obtain ⟨q,hq,e⟩:=iU hp;rw [<- e]; exact av g q hq
theorem mX:∀ {bs:List (Tr × Int)},bs.Pairwise (fun p q=>p.1 ≠ q.1)->∀ p ∈ bs,sumE bs p.1=p.2
 | [],_,_,h=>nomatch h
 | q::r,h,p,hp=>by
  obtain ⟨h1,h2⟩:=List.pairwise_cons.mp h;rw [pC];rcases Qv hp with e | hp
  ·rw [e,if_pos rfl,jM fun q' rq z=>h1 q' rq z.symm,Int.add_zero]
  ·rw [if_neg (h1 p hp),Int.zero_add]; exact mX h2 p hp
theorem iR (h:g.Ok C) {p:Tr × Int} (hp:p ∈ g.ps):S g p.1=p.2:=mX (Dq h) p hp
theorem cF (h:g.Ok C) (x:Tr):(S g x=0/\∀ p ∈ g.ps,p.1 ≠ x)\/∃ m,(x,m) ∈ g.ps/\S g x=m/\1<=m/\m < C:=by
 by_cases e:∃ p ∈ g.ps,p.1=x
 ·obtain ⟨p,hp,rfl⟩:=e;obtain ⟨_,_,c,d⟩:=(aV.mp h).1 p hp;exact .inr ⟨p.2,hp,iR h hp,c,d⟩
 ·have h':∀ p ∈ g.ps,p.1 ≠ x:=fun p hp z=>e ⟨p,hp,z⟩;exact .inl ⟨jM h',h'⟩
theorem bW (h:g.Ok C) (x:Tr):0<=S g x:=by
 rcases cF h x with ⟨e,_⟩ | ⟨m,_,e,h1,_⟩
 ·omega
 ·omega
theorem Hw (h:g.Ok C) (hC:1<=C) (x:Tr):S g x < C:=by
 rcases cF h x with ⟨e,_⟩ | ⟨m,_,e,_,h1⟩
 ·omega
 ·omega
theorem wa (hg:∀ p ∈ g.ps,dN p.1.1/\p.1.2.Ok E/\1<=p.2) (hk:∀ p ∈ k.ps,dN p.1.1/\p.1.2.Ok E/\1<=p.2) (h:∀ t,S g t+S k t < E):(mE g k).Ok E:=by
 have hr:=ZW (enc:=aO) (g.ps++k.ps);have oq:∀ p ∈ g.ps++k.ps,dN p.1.1/\p.1.2.Ok E/\1<=p.2:=fun p hp=>(Qw hp).elim (hg p) (hk p);refine eF.mpr ⟨fun p hp=>?_,hr⟩;obtain ⟨q,hq,e⟩:=IE (enc:=aO) _ p hp;obtain ⟨a,b,_⟩:=oq q hq;have h1:=(Zj (enc:=aO) (fun p hp=>(oq p hp).2.2) p hp).1;have e2:sumE (rR aO (g.ps++k.ps)) p.1=p.2:=mX (hr.imp fun z=>YE z) p hp;rw [Iz,wV] at e2;have:=h p.1;refine ⟨e ▸ a,e ▸ b,h1,?_⟩;show p.2 < E;rw [<- e2]; exact this
theorem nI (h:g.Ok C) (hC:C<=E):∀ p ∈ g.ps,dN p.1.1/\p.1.2.Ok E/\1<=p.2:=fun p hp=>by
 obtain ⟨a,b,c,_⟩:=(aV.mp h).1 p hp;exact ⟨a,b.mono hC,c⟩
theorem fL (hg:g.Ok C) (hk:k.Ok D) (hC:1<=C) (hD:1<=D):(mE g k).Ok (C+D):=by
 refine wa (nI hg (by omega)) (nI hk (by omega)) fun t=>?_;have:=Hw hg hC t;have:=Hw hk hD t;omega
theorem Bt (hg:g.Ok C):mE g .nil=g:=by
 have hS:∀ t,S (mE g .nil) t=S g t:=fun t=>by rw [tV]; exact Int.add_zero _
 cases g with
 | nil=>exact ext (fL (C:=1) (D:=1) (g:=.nil) (k:=.nil) trivial trivial (by omega) (by omega)) hg hS
 | cons n h m r =>
  have hC:1<=C:=by have:=hg.2.2.1; have:=hg.2.2.2.1; omega
  exact ext (fL hg (k:=.nil) (D:=1) trivial hC (by omega)) hg hS
def qu (m:Int) (bs:List (Tr × Int)):List (Tr × Int):=bs.map fun p=>(p.1,p.2*m)
def fx (g:Gr) (m:Int):Gr:=if m=0 then .nil else ofPs (qu m g.ps)
theorem v3 (m:Int):∀ bs:List (Tr × Int),tot (qu m bs)=tot bs
 | []=>rfl
 | p::r=>by
  show 1+p.1.2.parts+tot (qu m r)=1+p.1.2.parts+tot r;rw [v3 m r]
theorem iV (g:Gr) (m:Int):(fx g m).parts<=g.parts:=by
 rw [fx]
 split
 ·exact Nat.zero_le _
 ·rw [aP,v3,jw]; exact Yc _
theorem Bq (g:Gr) (m:Int):(fx g m).ps.length<=g.ps.length:=by
 rw [fx]
 split
 ·exact Nat.zero_le _
 ·rw [aK,qu,Ye]; exact Yc _
theorem v8 {p:Tr × Int} (hp:p ∈ (fx g m).ps):∃ q ∈ g.ps,q.1=p.1:=by
 rw [fx] at hp
 split at hp
 ·exact nomatch hp
 ·rw [aK] at hp;obtain ⟨q,hq,e⟩:=Qx hp;exact ⟨q,hq,by rw [<- e]⟩
theorem gM (h:g.Ok C) (hC:1<=C) {m:Int} (hm:0<=m):(fx g m).Ok (C*m+C):=by
 have hle:C<=C*m+C:=by have:=Int.mul_nonneg (show (0:Int)<=C by omega) hm; omega
 rw [fx]
 split
 ·trivial
 ·obtain ⟨h1,h2⟩:=aV.mp h;refine eF.mpr ⟨fun p hp=>?_,?_⟩
  ·obtain ⟨q,hq,rfl⟩:=Qx hp;obtain ⟨a,b,c,d⟩:=h1 q hq;have m1:1<=m:=by omega
   refine ⟨a,b.mono hle,?_,?_⟩
   ·show 1<=q.2*m;have:=Int.mul_le_mul c m1 (by omega) (by omega);omega
   ·show q.2*m < C*m+C;have:=Int.mul_le_mul_of_nonneg_right (show q.2<=C by omega) hm;omega
  ·exact List.pairwise_map.mpr (h2.imp fun z=>z)
def pos (g:Gr) (t:Tr):Nat:=(g.ps.map (·.1)).idxOf t
def Named (ns:List Str) (g:Gr):Prop:=∀ x ∈ g.within,x.1.1 ∈ ns
theorem aJ:Named ns g ↔ ∀ p ∈ g.ps,p.1.1 ∈ ns/\Named ns p.1.2:=by
 unfold Named;rw [dO];constructor
 ·intro h p hp;exact ⟨h p (List.mem_flatMap.mpr ⟨p,hp,by simp⟩),fun x hx=>h x (List.mem_flatMap.mpr ⟨p,hp,by simp [hx]⟩)⟩
 ·intro h x hx;obtain ⟨p,hp,hx⟩:=List.mem_flatMap.mp hx;rcases Qv hx with e | hx
  ·rw [e]; exact (h p hp).1
  ·exact (h p hp).2 x hx
theorem d5 (h:Named ns g) (t:Tr) (m:Int):Named ns (wo g t m):=aJ.mpr fun p hp=>by
 rw [yw] at hp;obtain ⟨q,hq,e⟩:=iU hp;rw [<- e]; exact aJ.mp h q hq
theorem i4 (h:Named ns g) (m:Int):Named ns (fx g m):=aJ.mpr fun p hp=>by
 obtain ⟨q,hq,e⟩:=v8 hp;rw [<- e]; exact aJ.mp h q hq
theorem eM (h:Named ns g) (h2:Named ns k):Named ns (mE g k):=aJ.mpr fun p hp=>by
 rw [yF] at hp;obtain ⟨q,hq,e⟩:=IE (enc:=aO) _ p hp;rw [<- e];rcases Qw hq with hq | hq
 ·exact aJ.mp h q hq
 ·exact aJ.mp h2 q hq
def one (t:Tr) (m:Int):Gr:=.cons t.1 t.2 m .nil
theorem zf (t:Tr) (m:Int):(one t m).ps=[(t,m)]:=rfl
theorem Eu (t:Tr) (m:Int) (x:Tr):S (one t m) x=if t=x then m else 0:=by
 show sumE [(t,m)] x=_;rw [pC]; exact Int.add_zero _
theorem vf {t:Tr} (h1:dN t.1) (h2:t.2.Ok C) (h3:1<=m) (h4:m < C):(one t m).Ok C:=⟨h1,h2,h3,h4,trivial,fun _ h=>nomatch h⟩
theorem lH {t:Tr} (h:t.1 ∈ ns) (h2:Named ns t.2) (m:Int):Named ns (one t m):=aJ.mpr fun p hp=>by
 rw [zf] at hp;rw [Qy hp]; exact ⟨h,h2⟩
end Gr
def Wd (d:PyData):Prop:=d.canLay0=true/\d.depth<=190
theorem Wd.of {d:PyData} (h:SeqAt.shaped d=true):Wd d:=⟨SeqAt.canLay_of_shaped h,by have:=SeqAt.depth_of_shaped h; omega⟩
def Um (K:Qn):R2:=fun x y H Q=>∃ d e,Dp K H x d/\Dp K H y e/\Wd d/\Wd e/\Q (.bl (!PyData.eqv d e)) H
section
variable {X:Cx}
theorem zgq {d e:PyData} (hd:Wd d) (hu:n+195 < cLine):n+min d.depth e.depth < cLine:=by
 have h1:=hd.2;have h2:min d.depth e.depth<=d.depth:=Nat.min_le_left ..;omega
theorem zfh (hu:X.A.units+195 < cLine):OpR X (compareOp .NotEq) (Um X.K):=by
 intro pn s σ H a b v1 v2 Q I ra rb ⟨d,e,da,db,wd,we,q⟩;obtain ⟨l1,k1⟩:=Dp.reads I d a v1 da ra;obtain ⟨l2,k2⟩:=Dp.reads I e b v2 db rb;exact SeqAt.compareNe_reads k1 k2 wd.1 we.1 (zgq wd hu) ⟨.bl _,H,I,Ja,q⟩
def zeu (K:Qn):V->List V->Hp->VK->Prop:=fun x xs H Q=>∃ (a:Addr) (y:V) (d:PyData) (ds:List PyData) (j:Nat) (z:PyData),x=V.ref a/\xs=[y]/\Dp K H (V.ref a) (.list ds)/\Dp K H y d /\
 PyData.canLayAll0 ds=true/\Wd d/\ds[j]?=some z/\PyData.eqv z d=true/\(∀ (m:Nat) (z':PyData),m < j->ds[m]?=some z'->PyData.eqv z' d=false)/\Q (.int (j:Nat)) H
theorem Z8 (hu:X.A.units+196 < cLine):MtR X "list.index" (zeu X.K):=by
 intro pn s σ H x xs v us Q I rx rs ⟨a,y,d,ds,j,z,ex,Ju,dl,dy,lay,wd,ez,eqz,before,q⟩;subst ex Ju;cases rx;cases rs with
 | cons ry rt =>
  rename_i uy ut;cases rt;obtain ⟨ls,k1⟩:=Dp.reads I d y uy dy ry;have room:X.A.units+1+min (PyData.depthAll ds) d.depth < cLine:=by
   have h1:=wd.2;have h2:min (PyData.depthAll ds) d.depth<=d.depth:=Nat.min_le_right ..;omega
  cases dl with
  | lst dh da =>
   obtain ⟨bV,vals,⟨⟨c1,c2,c3,c4⟩,cnt,MK,Nb,zpb,DO⟩,hlen⟩:=I.list dh;simp only at Nb DO;subst Nb DO;obtain ⟨ms,k2⟩:=Dp.readsAll I ds _ bV da vals;have el:bV.length=ds.length:=SeqAt.ReadsAll.length ds bV ms k2;have em:bV.map (SeqAt.readOf s.heap)=ds:=SeqAt.readsAll_map ds bV ms lay k2;have kY:=sizeLine_eq;have ya6:=vals.length;obtain ⟨jd,_⟩:=Kq ez;have jl:j < bV.length:=by omega
   have ja:j < bV.toArray.size:=by simpa using jl
   have look:∀ (m:Nat) (hm:m < bV.toArray.size) (z':PyData),ds[m]?=some z'->SeqAt.readOf s.heap bV.toArray[m]=z':=by
    intro m hm z' e;have Vv:m < bV.length:=by simpa using hm
    rw [<- em,List.getElem?_map,Kp Vv] at e;have e':=Yd (show some (SeqAt.readOf s.heap bV[m])=some z' from e);simpa using e'
   refine call_meets PySem.F.slot_list_index ⟨_,MK,Ja⟩ PySem.F.entry_list_index (PySem.F.args_list_index_2 _ _)
    (SeqAt.list_indexAt a bV.toArray cnt c2 c4 uy (fun u=>PyData.eqv (SeqAt.readOf s.heap u) d) j ja (by omega) ?_ ?_) ⟨MK,SeqAt.items_eqAt (vs:=bV.toArray) (show ReadsAll s.heap bV.toArray.toList ds ms from k2) k1 lay wd.1 room,?_⟩
   ·show PyData.eqv (SeqAt.readOf s.heap bV.toArray[j]) d=true;rw [look j ja z ez]; exact eqz
   ·intro m hm hmj;have e:ds[m]?=some ds[m]:=Kp (show m < ds.length by omega);show PyData.eqv (SeqAt.readOf s.heap bV.toArray[m]) d=false;rw [look m hm _ e]; exact before m _ hmj e
   ·exact ⟨.int (j:Nat),H,I.tok _,⟨_,Ja⟩,q⟩
end
def Bk.far (b:Bk) (k:Str) (n:Int):Int:=match b.get k with
 | some kd=>if kd.w=true then n else 0
 | none=>0
theorem Bk.oC (b:Bk) (k:Str) {n:Int} (h:0<=n):0<=b.far k n/\b.far k n<=n:=by
 unfold Bk.far
 split
 ·split <;> omega
 ·omega
namespace Gr
variable {b:Bk} {n:Int} {C F E:Int} {g fr:Gr}
def gH (r:Ru) (n:Int):Gr:=mE r.1 (fx r.2 n)
theorem oz (h:eW r) (hn:0<=n):(gH r n).Ok (1000000001*n+2000000002):=by
 have h2:=gM h.2.1 (by omega) hn;exact (fL h.1 h2 (by omega) (by omega)).mono (by omega)
theorem lP (h:eW r) (n:Int):(gH r n).parts<=4:=by
 have h1:=kW r.1 (fx r.2 n);have h2:=iV r.2 n;have h3:=h.2.2;unfold gH;omega
theorem oA (h:eW r) (n:Int):(gH r n).deep<=4:=by
 have h1:=oL (gH r n);have h2:=lP h n;omega
theorem pW (h:∀ p ∈ Ru.within r,p.1.1 ∈ ns) (n:Int):Named ns (gH r n) :=
 eM (fun x hx=>h x (gR _ hx)) (i4 (fun x hx=>h x (jr _ hx)) n)
def stk (b:Bk) (n:Int) (fr:Gr):Pl->Gr->Gr × Pl
 | [],g=>(g,[])
 | i::r,g=>match g.ps[i]? with
  | none=>(g,[])
  | some p=>if r=[] then (mE (wo g p.1 1) fr,[]) else
    (mE (wo g p.1 1) (one (p.1.1,(stk b n fr r p.1.2).1) (1+b.far p.1.1 n)),pos (mE (wo g p.1 1) (one (p.1.1,(stk b n fr r p.1.2).1) (1+b.far p.1.1 n))) (p.1.1,(stk b n fr r p.1.2).1)::(stk b n fr r p.1.2).2)
def bareAt:Gr->Pl->Option Str
 | _,[]=>none
 | g,i::r=>match g.ps[i]? with
  | none=>none
  | some p=>if r=[] then (if p.1.2=.nil then some p.1.1 else none) else bareAt p.1.2 r
theorem iX {p:Tr × Int} (e:g.ps[i]?=some p):stk b n fr [i] g=(mE (wo g p.1 1) fr,[]):=by
 rw [stk,e]; rfl
def chg (b:Bk) (n:Int) (fr:Gr) (r:Pl) (p:Tr × Int):Tr:=(p.1.1,(stk b n fr r p.1.2).1)
def Jx (b:Bk) (n:Int) (fr:Gr) (r:Pl) (g:Gr) (p:Tr × Int):Gr:=mE (wo g p.1 1) (one (chg b n fr r p) (1+b.far p.1.1 n))
theorem gB {r:Pl} {p:Tr × Int} (e:g.ps[i]?=some p) (hr:r ≠ []):stk b n fr (i::r) g=(Jx b n fr r g p,pos (Jx b n fr r g p) (chg b n fr r p)::(stk b n fr r p.1.2).2):=by
 rw [stk,e];simp only [if_neg hr]
 rfl
theorem dw {k:Str} (h:bareAt g [i]=some k):∃ p,g.ps[i]?=some p/\p.1=(k,.nil):=by
 rw [bareAt] at h;cases e:g.ps[i]? with
 | none=>rw [e] at h; cases h
 | some p =>
  rw [e] at h;simp only [if_true] at h;by_cases z:p.1.2=.nil
  ·rw [if_pos z] at h;exact ⟨p,Ja,Prod.ext (Yd h) z⟩
  ·rw [if_neg z] at h; cases h
theorem cw {r:Pl} {k:Str} (hr:r ≠ []) (h:bareAt g (i::r)=some k):∃ p,g.ps[i]?=some p/\bareAt p.1.2 r=some k:=by
 rw [bareAt] at h;cases e:g.ps[i]? with
 | none=>rw [e] at h; cases h
 | some p =>
  rw [e] at h;simp only [if_neg hr] at h;exact ⟨p,Ja,h⟩
theorem wK {pl:Pl} {k:Str} (h:bareAt g pl=some k):pl ≠ []:=fun z=>by rw [z] at h; cases h
theorem EV {t:Tr} (h:g.Ok C) (hm:0<=m) (hC:C<=E):∀ p ∈ (wo g t m).ps,dN p.1.1/\p.1.2.Ok E/\1<=p.2:=nI (g6 h hm) hC
theorem CW (h:g.Ok C) {t:Tr} {m:Int} (hm:0<=m) (x:Tr):S (wo g t m) x<=S g x:=by
 rw [Hv h hm]
 split
 ·next e=>
  subst e;have:=bW h x
  split <;> omega
 ·exact Kw _
theorem cj (h:g.Ok C) {p:Tr × Int} (hp:p ∈ g.ps):dN p.1.1/\p.1.2.Ok C/\1<=p.2/\p.2 < C:=(aV.mp h).1 p hp
theorem uc {p:Tr × Int} (h:g.Ok C) (hp:p ∈ g.ps):2<=C:=by have:=(cj h hp).2.2; omega
theorem lg (hn:0<=n) (hF:1<=F) (Be:fr.Ok F):∀ {pl:Pl} {g:Gr} {k:Str},g.Ok C->bareAt g pl=some k->(stk b n fr pl g).1.Ok (C+F+n+2)
 | [],_,_,_,h=>nomatch h
 | i::r,g,k,ho,h=>by
  by_cases hr:r=[]
  ·subst hr;obtain ⟨p,e,_⟩:=dw h;rw [iX e];have hC:=uc ho (Qu e);exact (fL (g6 ho (by omega)) Be (by omega) hF).mono (by omega)
  ·obtain ⟨p,e,h2⟩:=cw hr h;rw [gB e hr];have pm:=Qu e;have hC:=uc ho pm;obtain ⟨a,o,_,_⟩:=cj ho pm;have ih:=lg hn hF Be o h2;obtain ⟨f1,f2⟩:=Bk.oC b p.1.1 hn;refine wa (EV ho (by omega) (by omega)) (fun q hq=>?_) fun t=>?_
   ·rw [zf] at hq;rw [Qy hq];exact ⟨a,ih,by show 1<=1+b.far p.1.1 n; omega⟩
   ·have h1:=CW ho (t:=p.1) (m:=1) (by omega) t;have h3:=Hw ho (by omega) t;rw [Eu]
    split <;> omega
theorem la:∀ {pl:Pl} {g:Gr} {k:Str},bareAt g pl=some k->(stk b n fr pl g).1.parts<=pl.length*(g.parts+1)+fr.parts
 | [],_,_,h=>nomatch h
 | i::r,g,k,h=>by
  by_cases hr:r=[]
  ·subst hr;obtain ⟨p,e,_⟩:=dw h;rw [iX e];have h1:=kW (wo g p.1 1) fr;have h2:=sh g p.1 1;simp only [Yk,List.length_nil];omega
  ·obtain ⟨p,e,h2⟩:=cw hr h;rw [gB e hr];have pm:=Qu e;have ih:=la h2;have h3:=kW (wo g p.1 1) (one (chg b n fr r p) (1+b.far p.1.1 n));have h4:=sh g p.1 1;have h5:(one (chg b n fr r p) (1+b.far p.1.1 n)).parts=1+(stk b n fr r p.1.2).1.parts:=rfl;have h6:=bE g p pm;have h7:r.length*(p.1.2.parts+1)<=r.length*(g.parts+1):=Nat.mul_le_mul_left _ (by omega);show (Jx b n fr r g p).parts<=_;rw [Yk,Nat.succ_mul];unfold Jx;omega
theorem j0:∀ {pl:Pl} {g:Gr} {k:Str},bareAt g pl=some k->(stk b n fr pl g).1.deep<=max g.deep (pl.length-1+fr.deep)
 | [],_,_,h=>nomatch h
 | i::r,g,k,h=>by
  by_cases hr:r=[]
  ·subst hr;obtain ⟨p,e,_⟩:=dw h;rw [iX e];have h2:=vY g p.1 1;exact sr (by omega) (by simp only [Yk,List.length_nil]; omega)
  ·obtain ⟨p,e,h2⟩:=cw hr h;rw [gB e hr];have pm:=Qu e;have ih:=j0 h2;have h4:=vY g p.1 1;have h5:(one (chg b n fr r p) (1+b.far p.1.1 n)).deep=max (1+(stk b n fr r p.1.2).1.deep) 0:=rfl;have h6:=av g p pm;have h7:0 < r.length:=List.length_pos_iff.mpr hr;refine sr (by omega) ?_;rw [h5,Yk];omega
theorem iN:∀ {pl:Pl} {g:Gr} {k:Str},bareAt g pl=some k->pl.length<=g.deep
 | [],_,_,h=>nomatch h
 | i::r,g,k,h=>by
  by_cases hr:r=[]
  ·subst hr;obtain ⟨p,e,_⟩:=dw h;have:=av g p (Qu e);simp only [Yk,List.length_nil];omega
  ·obtain ⟨p,e,h2⟩:=cw hr h;have:=av g p (Qu e);have:=iN h2;simp only [Yk];omega
theorem fA {ns:List Str} (Be:Named ns fr):∀ {pl:Pl} {g:Gr} {k:Str},bareAt g pl=some k->Named ns g->Named ns (stk b n fr pl g).1
 | [],_,_,h,_=>nomatch h
 | i::r,g,k,h,hg=>by
  by_cases hr:r=[]
  ·subst hr;obtain ⟨p,e,_⟩:=dw h;rw [iX e];exact eM (d5 hg _ _) Be
  ·obtain ⟨p,e,h2⟩:=cw hr h;rw [gB e hr];obtain ⟨h3,h4⟩:=aJ.mp hg p (Qu e);exact eM (d5 hg _ _) (lH (t:=chg b n fr r p) h3 (fA Be h2 h4) _)
end Gr
abbrev mj:Ru:=(.nil,.nil)
def S3 (K:Qn):Sp:=fun vs H Q _=>∃ (v:V) (g:Gr) (ns:List Str),vs=[v]/\GA K H v g/\g.deep<=68/\g.parts<=3000/\Gr.Named ns g/\ns.length<=60/\∀ (l:Addr) (ss:List Str) (H':Hp),SB [] H H'->H l=none->H' l=some (.lst (ss.map V.str))->SrtOf ss (g.within.map (·.1.1))->ss.length<=60->Q (.ref l) H'
theorem Gr.dM {ns:List Str}:∀ {pl:Pl} {g:Gr} {k:Str},Gr.Named ns g->Gr.bareAt g pl=some k->k ∈ ns
 | [],_,_,_,h=>nomatch h
 | i::r,g,k,hn,h=>by
  by_cases hr:r=[]
  ·subst hr;obtain ⟨p,e,e2⟩:=Gr.dw h;have:=(Gr.aJ.mp hn p (Qu e)).1
   rwa [e2] at this
  ·obtain ⟨p,e,h2⟩:=Gr.cw hr h;exact dM (Gr.aJ.mp hn p (Qu e)).2 h2
theorem Gr.yA:Wd (.tuple []):=⟨by decide +kernel,by decide +kernel⟩
theorem nJ {σ:L2.St} {H:Hp} {Q:List V->Hp->Prop} (h:Q [] H):tNil σ H Q:=h
namespace Gr
theorem iy:∀ {bs:List (Tr × Int)} (x:Tr),(∀ p ∈ bs,0<=p.2)->0<=sumE bs x
 | [],_,_=>Kw _
 | p::r,x,h=>by
  have:=iy (bs:=r) x fun q hq=>h q (by simp [hq]);have:=h p (by simp);rw [pC]
  split <;> omega
end Gr
theorem zd2 (n d:Nat) (h:1<=n):HT.sIx n d (some (-1))=n-1:=by
 unfold HT.sIx;simp
 try omega
theorem zam (xs:List V) (h:1<=xs.length):cutV xs none (some (-1))=xs.take (xs.length-1):=by
 unfold cutV;rw [zd2 _ _ h,show HT.sIx xs.length 0 none=0 from rfl];simp
section
variable {γ:Type} [DecidableEq γ]
def wsum (f:γ->Int) (l:List (γ × Int)):Int:=match l with
 | []=>0
 | p::r=>f p.1*p.2+wsum f r
theorem Tj (f:γ->Int):∀ as bs:List (γ × Int),wsum f (as++bs)=wsum f as+wsum f bs
 | [],bs=>by simp [wsum]
 | p::r,bs=>by show _+wsum f (r++bs)=_; rw [Tj f r bs,wsum]; omega
theorem KY (f:γ->Int) (t:γ):∀ l:List (γ × Int),wsum f l=f t*sumE l t+wsum f (l.filter fun p=>decide (p.1 ≠ t))
 | []=>by simp [wsum,sumE]
 | p::r=>by
  have ih:=KY f t r;by_cases e:p.1=t
  ·rw [List.filter_cons_of_neg (by simpa using e)];show f p.1*p.2+wsum f r=f t*((if p.1=t then p.2 else 0)+sumE r t)+_;rw [if_pos e,Int.mul_add,e,ih]; omega
  ·rw [List.filter_cons_of_pos (by simpa using e)];show f p.1*p.2+wsum f r=f t*((if p.1=t then p.2 else 0)+sumE r t)+(f p.1*p.2+_);rw [if_neg e,Int.zero_add,ih]; omega
theorem K7 (t x:γ):∀ l:List (γ × Int),sumE (l.filter fun p=>decide (p.1 ≠ t)) x=if x=t then 0 else sumE l x
 | []=>by simp [sumE]
 | p::r=>by
  have ih:=K7 t x r;by_cases e:p.1=t
  ·rw [List.filter_cons_of_neg (by simpa using e),ih];by_cases hx:x=t
   ·rw [if_pos hx,if_pos hx]
   ·rw [if_neg hx,if_neg hx,pC,if_neg (by rw [e]; exact fun z=>hx z.symm),Int.zero_add]
  ·rw [List.filter_cons_of_pos (by simpa using e),pC,ih];by_cases hx:x=t
   ·rw [if_pos hx,if_pos hx,if_neg (by rw [hx]; exact e)]; rfl
   ·rw [if_neg hx,if_neg hx,pC]
theorem z3n {p:γ × Int} {r:List (γ × Int)}:((p::r).filter fun q=>decide (q.1 ≠ p.1)).length<=r.length:=by
 rw [List.filter_cons_of_neg (by simp)]; exact List.length_filter_le _ _
theorem QB (f:γ->Int):∀ (n:Nat) (as bs:List (γ × Int)),as.length+bs.length<=n->(∀ x,sumE as x=sumE bs x)->wsum f as=wsum f bs
 | n,[],[],_,_=>rfl
 | 0,p::r,bs,h,_=>by simp at h
 | 0,[],p::r,h,_=>by simp at h
 | n+1,p::r,bs,h,e=>by
  rw [KY f p.1 (p::r),KY f p.1 bs,e p.1,QB f n ((p::r).filter fun q=>decide (q.1 ≠ p.1)) (bs.filter fun q=>decide (q.1 ≠ p.1)) ?_ fun x=>?_]
  ·have h1:=z3n (p:=p) (r:=r);have h2:=List.length_filter_le (fun q:γ × Int=>decide (q.1 ≠ p.1)) bs;simp only [Yk] at h;omega
  ·rw [K7,K7,e]
 | n+1,[],p::r,h,e=>by
  rw [KY f p.1 (p::r),KY f p.1 [],<- e p.1,QB f n (([]:List (γ × Int)).filter fun q=>decide (q.1 ≠ p.1)) ((p::r).filter fun q=>decide (q.1 ≠ p.1)) ?_ fun x=>?_]
  ·have h1:=z3n (p:=p) (r:=r);simp only [Yk,List.length_nil,List.filter_nil] at h ⊢;omega
  ·rw [K7,K7,e]
end
namespace Gr
theorem sf (f:Tr->Int) (m:Int):∀ l:List (Tr × Int),wsum f (qu m l)=wsum f l*m
 | []=>by show (0:Int)=0*m; rw [Int.zero_mul]
 | p::r=>by
  show f p.1*(p.2*m)+wsum f (qu m r)=(f p.1*p.2+wsum f r)*m;rw [sf f m r,Int.add_mul,Int.mul_assoc]
end Gr
section
variable {prog:Program} {w:World} {A:Around} {E:Value->Shared->Prop} {st:Shared} {K:Qn} {e D:Addr} {oe:Obj} {dd:Option Obj}
theorem zd4 (C:ExcC K D):PySem.W.findObj K D dd "__class__"=some (.bind (.builtin "getset_descriptor.__get__") (.builtin "object.__class__")):=by
 obtain ⟨cd,Cv,_⟩:=PySem.W.any_some C.hd;simp only [PySem.W.findObj,Cv,C.ha,C.hn,C.ht,Option.bind_some]
theorem zeg {Q:Option Value->Shared->Prop} (C:ExcC K D) (X:K.In st.heap) (I:PySem.W.InstAt st.heap e oe D dd) (q:Q (some (.ref D)) { st with toks:=st.toks+1 }):wpAny (model prog w) A (getAttr? (.ref e) "__class__") Q E st:=by
 have kf:=zd4 (dd:=dd) C;obtain ⟨hp,gn,dc,tk,ows⟩:=st;have K0:=I.type (M:=model prog w);have K1:=PySem.W.looks_findIn (M:=model prog w) X C.hg;have K2:=PySem.W.looks_findIn (M:=model prog w) X C.hk;have K3:=PySem.W.looks_find (M:=model prog w) X I kf;have kb:Looks (model prog w) hp (isInstance (.ref e) (.type "BaseException")) true:=K0.andThen (PySem.W.looks_subIn X C.hs);have z2:(Value.builtin "BaseException.__getattribute__" == Value.builtin "object.__getattribute__")=false:=by decide +kernel
 have z1:(onTheHeap (Value.ref D)&&Value.builtin "BaseException.__getattribute__" == Value.builtin "object.__getattribute__")=false:=by rw [z2,Bool.and_false]
 unfold getAttr? getAttrBy? getAttrBy;refine Ke (wpAny_mkText (Ke (wpAny_attempt (wpAny_holding (Ke (K0.at (Ke (K1.at ?gb))))))))
 case gb =>
 show wpAny _ _ (if (onTheHeap (Value.ref D)&&Value.builtin "BaseException.__getattribute__" == Value.builtin "object.__getattribute__")=true then _ else _) _ _ _;rw [z1,if_neg Bool.false_ne_true];unfold getAttrByItsOwn hookBefore;refine Ke ?gc
 case gc =>
 rw [if_pos (show onTheHeap (Value.ref D)=true from rfl)];refine K2.at (Ke (wpAny_attempt (wpAny_holding ?gd)))
 case gd =>
 unfold callGetattribute;rw [show (false&&onTheHeap (Value.builtin "BaseException.__getattribute__"))=false from rfl,if_neg Bool.false_ne_true];unfold boundAndCalled;rw [PySem.F.excAttr_ValueError.ga.bind (.ref e)];refine Ke (wpAny_pure ?ge)
 case ge =>
 show wpAny _ _ (call (.builtin "BaseException.__getattribute__") [.ref e,.str "__class__" tk]) _ _ _;refine wpAny_call (codeAny_call_builtin PySem.F.excAttr_ValueError.ga.plain PySem.F.entry_bexc_ga ?gf)
 case gf =>
 refine @check_slot (model prog w) _ _ ⟨hp,gn,dc,tk+1,ows⟩ "BaseException.__getattribute__" "BaseException" "__getattribute__" (.ref e) [.str "__class__" tk] [] _ (by decide +kernel) (by decide +kernel) kb (PySem.F.args_bexc_ga (.ref e) (.str "__class__" tk)) ?gg
 case gg =>
 unfold Builtin.«object.__getattribute__»;refine Ke (wpAny_of_eq (a:=((Value.ref e:Value),[Value.str "__class__" tk])) (by first | rfl | (simp only [slotArgs]; rfl)) ?gh)
 case gh =>
 refine Ke (wpAny_pure (Ke (K0.at (Ke (K3.at ?gi)))))
 case gi =>
 show wpAny _ _ (holding [Value.builtin "object.__class__"] (call (.builtin "getset_descriptor.__get__") [.builtin "object.__class__",.ref e,.ref D]) >>= ret) _ _ _;refine Ke (wpAny_holding (wpAny_call (PySem.W.class_get (s:=⟨hp,gn,dc,tk+1,ows⟩) (ox:=oe) (od:=dd) X I C.hm ?gj)))
 case gj =>
 refine wpAny_pure ?gk
 case gk =>
 show wpAny _ _ (handedOut (.ref D)) _ _ _;rw [handedOut_of (v:=.ref D) rfl]
 first
  | exact wpAny_pure (wpAny_pure q)
  | exact wpAny_pure q
  | exact wpAny_pure (Ke (wpAny_pure (wpAny_pure q)))
theorem Zf (C:ExcC K D):PySem.W.KitX K (.ref e) (.ref D) (fun h=>PySem.W.InstAt h e oe D dd) where
 ty:=fun _ _ _ I=>I.type
 it:=fun M h X _=>by
  obtain ⟨cd,Cv,_⟩:=PySem.W.any_some C.hd;unfold PySem.W.clsIn at Cv
  split at Cv
  ·next ho=>exact fun A' Q' E' s' k q=>by unfold isType loadHead; exact Ke (wpAny_loadPart (k _ _ (X _ _ ho)) (wpAny_pure q))
  ·cases Cv
 ne:=fun h tp dd' bV n sl X htp=>Bool.eq_false_iff.mpr fun q=>by
  obtain ⟨cd,Cv,_⟩:=PySem.W.any_some C.hd;cases Value.ref.inj (beq_iff_eq.mp q);unfold PySem.W.clsIn at Cv
  split at Cv
  ·next ho=>exact absurd ((X _ _ ho).symm.trans htp) (fun z=>by cases z)
  ·cases Cv
 ca:=fun X I k=>zeg C X I k
end
def XP (H:Hp) (d:Option Addr):Prop:=d=none\/∃ dd fs,d=some dd/\H dd=some (.xd fs)
def C6 (K:Qn) (a:Addr) (cls:Value) (d:Option Addr):List V->Hp->VK->Prop:=fun xs H Q=>∃ (D:Addr) (c:V) (cv:Value) (b:Bool),cls=.ref D/\ExcC K D/\XP H d/\xs=[.ref a,c]/\(∀ u,RelV c u->u=cv)/\PySem.W.kitOne K (.ref D) cv=some b/\Q (.bl b) H
def Sj (K:Qn) (a:Addr) (cls:Value) (d:Option Addr):List V->Hp->VK->Prop:=fun xs H Q=>∃ (D tp:Addr) (cs:List V) (ws:List Value) (b:Bool),cls=.ref D/\ExcC K D/\XP H d/\xs=[.ref a,.ref tp]/\H tp=some (.tup cs)/\Paired ClsV cs ws/\PySem.W.kitAny K (.ref D) ws=some b/\Q (.bl b) H
def EY (K:Qn) (a:Addr) (cls:Value) (d:Option Addr) (f:Str) (te:TE):TE:=fun σ H Q=>te σ H fun x H1=>∃ (C dd:Addr) (fs:List (Str × V)) (v:V),x=.ref a/\cls=.ref C/\ExcC K C/\PySem.W.findIn K (.ref C) f=some none/\d=some dd/\H1 dd=some (.xd fs)/\fs.lookup f=some v/\Q v H1
section
variable {X:Cx} {a:Addr} {oe:Obj} {cls:Value} {d:Option Addr}
theorem YL {D:Addr} {pins:List (Addr × Obj)} {σ:L2.St} {H:Hp} (hm:(a,oe) ∈ X.pn) (hz:Zc (.ref D) d oe) (hf:∃ vs,oe.data=.fields vs) (I:Inv X pins σ H s) (hd:XP H d):∃ dd,PySem.W.InstAt s.heap a oe D dd:=by
 obtain ⟨h,_⟩:=I.pin (a,oe) (List.mem_append.mpr (.inl hm));obtain ⟨vs,hv⟩:=hf;obtain ⟨h1,h2⟩:=hz;have nc:PySem.W.notCls oe=true:=by unfold PySem.W.notCls; rw [hv]
 rcases hd with e | ⟨dd,fs,e,g⟩
 ·exact ⟨none,h,h1,nc,by rw [h2,e]; trivial⟩
 ·obtain ⟨mA,A9,_⟩:=(show ObjOk X.prog X.w H s.heap dd (.xd fs) from I.hok dd _ g);obtain ⟨od,ho,_⟩:=lookIn_ns A9;exact ⟨some od,h,h1,nc,by rw [h2,e]; exact ho⟩
theorem ES (hm:(a,oe) ∈ X.pn) (hz:Zc cls d oe) (hf:∃ vs,oe.data=.fields vs):CallR X (.builtin "isinstance") (C6 X.K a cls d):=by
 intro pins s σ H xs us Q I r h;obtain ⟨D,c,cv,b,ec,C,hd,rfl,VY,e,q⟩:=h;subst ec;obtain ⟨u1,u2,rfl,r1,r2⟩:=vals2 r;cases (show u1=Value.ref a from r1);cases VY _ r2;obtain ⟨dd,J⟩:=YL hm hz hf I hd;exact PySem.W.kia_one (Zf C) I.kIn J e (fun z=>nomatch z) fun tk=>⟨.bl b,H,I.kept (t':=tk) fun _ _ z=>z,rfl,q⟩
theorem z5s (hm:(a,oe) ∈ X.pn) (hz:Zc cls d oe) (hf:∃ vs,oe.data=.fields vs):CallR X (.builtin "isinstance") (Sj X.K a cls d):=by
 intro pins s σ H xs us Q I r h;obtain ⟨D,tp,cs,ws,b,ec,C,hd,rfl,hT,k,e,q⟩:=h;subst ec;obtain ⟨u1,u2,rfl,r1,r2⟩:=vals2 r;cases (show u2=Value.ref tp from r2);cases (show u1=Value.ref a from r1);obtain ⟨_,bV,rv,o,h1,h2,n,h3⟩:=(show ObjOk X.prog X.w H s.heap tp (.tup cs) from I.hok tp _ hT);have e3:=ClsV.all k rv;subst e3;obtain ⟨oc,od,dt,sl⟩:=o;simp only at h2 h3;subst h2 h3;obtain ⟨dd,J⟩:=YL hm hz hf I hd;exact PySem.W.kia_tup (Zf C) I.kIn J h1 e (fun z=>nomatch z) fun tk=>⟨.bl b,H,I.kept (t':=tk) fun _ _ z=>z,rfl,q⟩
theorem YQ {te:TE} {pos:Pos} {n:Str} (hm:(a,oe) ∈ X.pn) (hz:Zc cls d oe) (hf:∃ vs,oe.data=.fields vs) (he:PE X e te) (hb:attributeBase e n X.env (eval e X.env)=eval e X.env:=by rfl):PE X (.Attribute e n pos) (EY X.K a cls d n te):=by
 refine ⟨fun pins st σ H Q I h=>attr_of hb (thn (he.run pins st σ H _ I h) fun u s1 hh=>?_)⟩;obtain ⟨x,H1,J1,rx,C,dd,fs,v,ex,ec,T,Vp,ed,hx,l,q⟩:=hh;subst ex ec ed;cases (show u=Value.ref a from rx);obtain ⟨ga,_⟩:=J1.pin (a,oe) (List.mem_append.mpr (.inl hm));obtain ⟨mA,A9,hr⟩:=(show ObjOk X.prog X.w H1 s1.heap dd (.xd fs) from J1.hok dd _ hx);obtain ⟨od,ho,hl⟩:=lookIn_ns A9;obtain ⟨w,hw,mh⟩:=RelO.some_of (v:=v) (o:=mA n) (by rw [<- l]; exact hr n);obtain ⟨vs,hv⟩:=hf;have nc:PySem.W.notCls oe=true:=by unfold PySem.W.notCls; rw [hv]
 have ins:PySem.W.InstAt s1.heap a oe C (some od):=⟨ga,hz.1,nc,by rw [hz.2]; exact ho⟩;exact HandSPX.exc_get J1.kIn ins T.hg T.hk T.hs (PySem.W.findObj_own T.hd Vp rfl (by rw [hl,hw])) (handed_of mh) ⟨v,H1,J1.tok _,mh,q⟩
end
structure ErrsM (K:Qn) (mg:Str->Option Value) (c:Str->Addr) (cq names kinds:List Str):Prop where
 glo:∀ n ∈ names,mg n=some (.ref (c n))
 ya:mg "FellError"=some (.ref (c "FellError"))
 ve:mg "ValueError"=none
 exc:∀ n ∈ cq,ExcC K (c n)
 exm:∀ n ∈ cq,PySem.W.exmOne K (.ref (c n)) (.ref (c "FellError"))=some true
 kve:∀ n ∈ cq,PySem.W.kitOne K (.ref (c n)) (.type "ValueError")=some true
 UT:∀ n ∈ cq,∀ m ∈ names,PySem.W.kitOne K (.ref (c n)) (.ref (c m))=some (decide (n=m))
 nok:∀ n ∈ kinds,PySem.W.findIn K (.ref (c n)) "kind"=some none
 exo:∀ n ∈ cq,∀ m ∈ names,PySem.W.exmOne K (.ref (c n)) (.ref (c m))=some (decide (n=m))
theorem ErrsM.any {K:Qn} {mg:Str->Option Value} {c:Str->Addr} {cq names kinds:List Str} (T:ErrsM K mg c cq names kinds) {n:Str} (hn:n ∈ cq):∀ {ms:List Str},(∀ m ∈ ms,m ∈ names)->PySem.W.kitAny K (.ref (c n)) (ms.map fun m=>.ref (c m))=some (decide (n ∈ ms))
 | [],_=>by simp [PySem.W.kitAny]
 | m::r,h=>by
  have e:=T.UT n hn m (h m bw);have e2:=T.any hn (ms:=r) fun x hx=>h x (bI _ hx);rw [Ky,PySem.W.kitAny,e];by_cases z:n=m
  ·simp [z]
  ·simp [z,e2]
theorem ErrsM.no {K:Qn} {c:Str->Addr} {names:List Str} (T:ErrsM K mg c cq names kinds) {n:Str} (hn:n ∈ cq) {ms:List Str} (h:∀ m ∈ ms,m ∈ names) (k:n ∉ ms):PySem.W.kitAny K (.ref (c n)) (ms.map fun m=>.ref (c m))=some false:=(T.any hn h).trans (by rw [Qz k])
theorem ErrsM.is {K:Qn} {c:Str->Addr} {names:List Str} (T:ErrsM K mg c cq names kinds) {n:Str} (hn:n ∈ cq) (h:n ∈ names):PySem.W.kitOne K (.ref (c n)) (.ref (c n))=some true:=(T.UT n hn n h).trans (by rw [Ya rfl])
theorem ErrsM.xP {K:Qn} {c:Str->Addr} {names:List Str} (T:ErrsM K mg c cq names kinds) {n m:Str} (hn:n ∈ cq) (h:m ∈ names) (k:n ≠ m):PySem.W.kitOne K (.ref (c n)) (.ref (c m))=some false:=(T.UT n hn m h).trans (by rw [Qz k])
def OE (K:Qn) (c:Str->Addr) (cq names:List Str):Bool:=cq.all fun n=>R7 K (c n)&&(decide (PySem.W.exmOne K (.ref (c n)) (.ref (c "FellError"))=some true)&&(decide (PySem.W.kitOne K (.ref (c n)) (.type "ValueError")=some true)&&names.all fun m=>decide (PySem.W.kitOne K (.ref (c n)) (.ref (c m))=some (decide (n=m)))&&decide (PySem.W.exmOne K (.ref (c n)) (.ref (c m))=some (decide (n=m)))))
theorem zes {K:Qn} {c:Str->Addr} {names:List Str} (h:OE K c cq names=true) (g:∀ n ∈ names,mg n=some (.ref (c n))) (f:mg "FellError"=some (.ref (c "FellError"))) (v:mg "ValueError"=none) (k:∀ n ∈ kinds,PySem.W.findIn K (.ref (c n)) "kind"=some none):ErrsM K mg c cq names kinds:=by
 have hh:∀ n ∈ cq,R7 K (c n)=true/\PySem.W.exmOne K (.ref (c n)) (.ref (c "FellError"))=some true/\PySem.W.kitOne K (.ref (c n)) (.type "ValueError")=some true/\∀ m ∈ names,PySem.W.kitOne K (.ref (c n)) (.ref (c m))=some (decide (n=m))/\PySem.W.exmOne K (.ref (c n)) (.ref (c m))=some (decide (n=m)):=fun n hn=>by
  have:=List.all_eq_true.mp h n hn;simp only [Bool.and_eq_true,decide_eq_true_eq,List.all_eq_true] at this;exact this
 exact ⟨g,f,v,fun n hn=>zdd (hh n hn).1,fun n hn=>(hh n hn).2.1,fun n hn=>(hh n hn).2.2.1,fun n hn m hm=>((hh n hn).2.2.2 m hm).1,k,fun n hn m hm=>((hh n hn).2.2.2 m hm).2⟩
theorem To {c:Str->Addr}:∀ ms:List Str,Paired ClsV (ms.map fun m=>V.ref (c m)) (ms.map fun m=>Value.ref (c m))
 | []=>.nil
 | _::r=>.cons (.own _) (To r)
namespace Lad
theorem fR {l k:Lad} (e:l.enc=k.enc):l=k:=by
 have h:=a5 l k;rw [<- e,a5] at h;by_cases z:l=k
 ·exact z
 ·rw [Qz z,Ya rfl] at h; cases h
def eU (x:Lad) (xs:List Lad):Lad:=xs.foldl (fun a y=>if a.lt y=true then y else a) x
theorem nM:∀ (xs:List Lad) (x:Lad),maxD x.enc (xs.map enc)=(eU x xs).enc
 | [],x=>rfl
 | y::r,x=>by
  show maxD (if dataLt x.enc y.enc=true then y.enc else x.enc) (r.map enc)=(eU (if x.lt y=true then y else x) r).enc;by_cases h:x.lt y=true
  ·rw [if_pos h,if_pos (show dataLt x.enc y.enc=true from h)]; exact nM r y
  ·rw [if_neg h,if_neg (show ¬ dataLt x.enc y.enc=true from h)]; exact nM r x
theorem gF:∀ (xs:List Lad) (x:Lad),eU x xs ∈ x::xs
 | [],x=>bw ..
 | y::r,x=>by
  show eU (if x.lt y=true then y else x) r ∈ _;by_cases h:x.lt y=true
  ·rw [if_pos h]; exact bI _ (gF r y)
  ·rw [if_neg h];rcases Qv (gF r x) with e | e
   ·rw [e]; exact bw ..
   ·exact bI _ (bI _ e)
theorem ka:∀ (xs:List Lad) (x:Lad),∀ y ∈ x::xs,(eU x xs).lt y=false
 | [],x,y,hy=>by rw [Qy hy]; exact lt_irrefl _
 | z::r,x,y,hy=>by
  show (eU (if x.lt z=true then z else x) r).lt y=false;by_cases h:x.lt z=true
  ·rw [if_pos h];have g:=ka r z;rcases Qv hy with rfl | hy
   ·cases e:(eU z r).lt y with
    | false=>rfl
    | true =>
     have:=lt_trans _ _ _ e h;rw [g z (bw ..)] at this; cases this
   ·exact g y hy
  ·rw [if_neg h];have g:=ka r x;rcases Qv hy with rfl | hy
   ·exact g _ (bw ..)
   rcases Qv hy with rfl | hy
   ·cases e:(eU x r).lt y with
    | false=>rfl
    | true =>
     have h:=eq_false_of_ne_true h;have gx:=g x (bw ..);by_cases e1:x=y
     ·subst e1; rw [gx] at e; cases e
     ·have:=lt_trans _ _ _ e (d6 x y e1 h);rw [gx] at this; cases this
   ·exact g y (bI _ hy)
end Lad
section
variable {prog:Program} {w:World} {A:Around} {E:Value->Shared->Prop} {s:Shared}
theorem zg5 {l:Addr} {vs:Array Value} {x:PyData} {xs:List PyData} {as:List Addr} {Q:Value->Shared->Prop} (hh:A.handled=none) (hl:s.heap.IsList l vs) (hr:ReadsAll s.heap vs.toList (x::xs) as) (ha:AlikeAll (x::xs)) (hu:A.units+1+PyData.depthAll (x::xs) < cLine)
  (h:∀ (i:Nat) v h' tk,vs[i]?=some v->(x::xs).getD i .none=maxD x xs->(∀ b o,s.heap.get? b=some o->h'.get? b=some o)->Q v { s with heap:=h',toks:=tk }) :
  wpAny (model prog w) A (call (.builtin "max") [.ref l]) Q E s:=by
 have hn:vs.size=xs.length+1:=readsAll_len hr;refine call_max_walkH (iter_listW (A:=A.in1) hh hl fun s2 e W st hfp hw hk=>?_);refine ⟨_,_,_,_,_,_,_,s.heap,_,Ja,W,st,hfp,by omega,hw,hk,cmpIn_gt (A:=A.in1) hr ha (by show A.units+1+_ < _; exact hu),fun v s' hP m=>?_⟩;obtain ⟨h',tk,rfl,yj⟩:=moved_old e rfl m;have e1:vs.size-1=xs.length:=by omega
 have e2:=(argBest_fold (fun a b=>dataLt b a) PyData.none x xs xs.length (Yc _)).2;rw [Yh] at e2;refine h _ v h' tk hP ?_ yj;rw [e1];unfold maxD;exact e2
end
def zis (K:Qn):List V->Hp->VK->Prop:=fun vs H Q=>∃ (a:Addr) (xs:List V) (l:Lad) (ls:List Lad),vs=[V.ref a]/\SqL K H a xs/\Bears K H Lad.enc xs (l::ls)/\(∀ k ∈ l::ls,k.deep<=45)/\∀ x:V,LA K H x (Lad.eU l ls)->Q x H
theorem Vals.at':∀ {vs:List V} {us:List Value} {i:Nat} {u:Value},Vals vs us->us[i]?=some u->∃ v,vs[i]?=some v/\RelV v u
 | _,_,0,u,.cons r _,h=>⟨_,rfl,by have e:=Yd (show some _=some u from h); subst e; exact r⟩
 | _,_,i+1,u,.cons _ t,h=>Vals.at' (i:=i) t (by simpa using h)
 | _,_,i,u,.nil,h=>by simp at h
theorem zeb {X:Cx} (hc:X.calm=true) (hu:X.A.units+110 < cLine):CallR X (.builtin "max") (zis X.K):=by
 intro pins s σ H vs us Q I r h;obtain ⟨a,xs,l,ls,rfl,hs,hb,hd,q⟩:=h;obtain ⟨bV,rv,hl,_⟩:=I.list hs;rw [Vals.ref1 r];obtain ⟨_,e2⟩:=P6 I hb rv;obtain ⟨as,ra⟩:=each_readsAll Lad.enc e2;have al:AlikeAll ((l::ls).map Lad.enc):=⟨fun x hx y hy=>by
  obtain ⟨p,_,rfl⟩:=Qx hx;obtain ⟨p2,_,rfl⟩:=Qx hy;exact Lad.dQ p p2,fun x hx=>by
  obtain ⟨p,_,rfl⟩:=Qx hx;exact Lad.Ac p⟩
 have yeu:PyData.depthAll ((l::ls).map Lad.enc)<=91:=z7x fun d Bh=>by
  obtain ⟨p,hp,rfl⟩:=Qx Bh;have:=hd p hp;have:=Lad.eO p;omega
 refine zg5 (vs:=bV.toArray) (x:=l.enc) (xs:=ls.map Lad.enc) (as:=as) (I.ok.hd hc) hl.isList (by simpa using ra) al (by show X.A.units+1+PyData.depthAll ((l::ls).map Lad.enc) < cLine; omega) fun i u h' tk hi e hk=>?_;obtain ⟨v,ev,rvu⟩:=Vals.at' (i:=i) rv (by simpa using hi);obtain ⟨p,ep,hp⟩:=hb.get ev;have e3:p.enc=(Lad.eU l ls).enc:=by
  rw [<- Lad.nM,<- e,show (l.enc::ls.map Lad.enc)=(l::ls).map Lad.enc from rfl,List.getD_eq_getElem?_getD,List.getElem?_map,ep]
  rfl
 have e4:=Lad.fR e3;exact ⟨v,H,I.kept hk,rvu,q v (by rw [<- e4]; exact hp)⟩
def dJ (w:Bool) (o l:Lad):Lad:=if w=true then Lad.spd o l else Lad.cI o l
def Bk.wide (b:Bk) (n:Str):Bool:=match b.get n with
 | some k=>k.w
 | none=>false
theorem Bk.mT {n:Str} {k:Kd} (h:b.get n=some k):b.wide n=k.w:=by unfold Bk.wide; rw [h]
namespace Gr
def rkT (b:Bk) (ρ:Str->Lad):Gr->List Lad
 | .nil=>[]
 | .cons k g m r=>Lad.bM (dJ (b.wide k) (ρ k) (Lad.aZ (rkT b ρ g))) m::rkT b ρ r
def rk (b:Bk) (ρ:Str->Lad) (g:Gr):Lad:=Lad.aZ (rkT b ρ g)
def du (b:Bk) (ρ:Str->Lad) (t:Tr):Lad:=dJ (b.wide t.1) (ρ t.1) (rk b ρ t.2)
variable {b:Bk} {ρ:Str->Lad} {C:Int}
theorem jE:∀ g:Gr,rkT b ρ g=g.ps.map fun p=>Lad.bM (du b ρ p.1) p.2
 | .nil=>rfl
 | .cons k g m r=>by
  show _::rkT b ρ r=_::r.ps.map _;rw [jE r]; rfl
theorem sO (g:Gr):rk b ρ g=Lad.aZ (g.ps.map fun p=>Lad.bM (du b ρ p.1) p.2):=by unfold rk; rw [jE]
theorem lS (ls:List Lad) (x:Lad):Lad.S (Lad.aZ ls) x=(ls.map fun l=>Lad.S l x).sum:=by
 have e:Lad.S (Lad.aZ ls) x=Lad.aG (ls.flatMap Lad.ps) x:=by
  unfold Lad.aZ Lad.S;rw [Lad.aK,Lad.mY,Lad.jy (Lad.bG _)]
 rw [e];clear e
 induction ls with
 | nil=>rfl
 | cons l r ih=>rw [List.flatMap_cons,Lad.bB,ih]; rfl
theorem rN (g:Gr) (x:Lad):Lad.S (rk b ρ g) x=wsum (fun t=>Lad.S (du b ρ t) x) g.ps:=by
 rw [sO,lS]
 induction g.ps with
 | nil=>rfl
 | cons p r ih =>
  rw [Ky,Ky,List.sum_cons,ih,Lad.iQ]
  rfl
end Gr
structure LFit (l:Lad):Prop where
 deep:l.deep<=25
 parts:l.parts<=900
 num:∀ p ∈ l.ps,0<=p.2/\p.2 < 2 ^ 2000
def Gr.rP (b:Bk) (ρ:Str->Lad) (ns:List Str):Gr->Prop
 | .nil=>True
 | .cons k g m r=>(k ∈ ns/\k ∈ b.names/\ρ k ≠ .nil/\LFit (ρ k)/\LFit (Gr.rk b ρ g)/\LFit (Gr.du b ρ (k,g))/\0<=m/\m < 2 ^ 2000/\((Gr.rkT b ρ (.cons k g m r)).flatMap Lad.ps).length<=900)/\Gr.rP b ρ ns g/\Gr.rP b ρ ns r
def oP (K:Qn) (H:Hp) (d:Addr) (ρ:Str->Lad) (ns:List Str):Prop:=∃ us:List V,H d=some (.dK (List.zipWith (fun (n:Str) (u:V)=>((Sum.inr n:Key),u)) ns us))/\Bears K H Lad.enc us (ns.map ρ)
theorem Zk {K:Qn} {H:Hp} {ρ:Str->Lad} {n:Str}:∀ {ns:List Str} {us:List V},Bears K H Lad.enc us (ns.map ρ)->n ∈ ns->∃ u,valV (List.zipWith (fun (n:Str) (u:V)=>((Sum.inr n:Key),u)) ns us) (Sum.inr n)=some u/\LA K H u (ρ n)
 | [],_,_,hn=>nomatch hn
 | m::r,us,h,hn=>by
  cases h with
  | @cons u AW _ _ h1 h2 =>
  by_cases e:m=n
  ·subst e;exact ⟨u,by simp [valV],h1⟩
  ·obtain ⟨v,h3,h4⟩:=Zk h2 (by rcases Qv hn with z | z; exact absurd z.symm e; exact z);refine ⟨v,?_,h4⟩;rw [List.zipWith_cons_cons];unfold valV;rw [List.find?_cons_of_neg (by simp only [decide_eq_true_eq]; exact fun z=>e (Sum.inr.inj z))];exact h3
theorem oP.val {K:Qn} {H:Hp} {n:Str} (h:oP K H d ρ ns) (hn:n ∈ ns):∃ u,DGet H d (.str n) (some u)/\LA K H u (ρ n):=by
 obtain ⟨us,h1,h2⟩:=h;obtain ⟨u,h3,h4⟩:=Zk h2 hn;exact ⟨u,jk h1 h3,h4⟩
theorem oP.sb {K:Qn} {H H':Hp} {d:Addr} {ρ:Str->Lad} {ns:List Str} {ps:List Addr} (h:oP K H d ρ ns) (s:SB ps H H') (hd:d ∉ ps):oP K H' d ρ ns:=by
 obtain ⟨us,h1,h2⟩:=h;exact ⟨us,s.keep _ _ h1 hd,h2.sb s Lad.af⟩
theorem oP.cH {K:Qn} {H H':Hp} (h:oP K H d ρ ns) (s:SB [] H H'):oP K H' d ρ ns:=h.sb s aL
def fh (b:Bk) (ρ:Str->Lad) (r:Ru):Lad:=Lad.oO (Gr.rk b ρ r.1) (Gr.rk b ρ r.2)
def vO (b:Bk) (ρ:Str->Lad) (ns:List Str) (r:Ru):Prop:=Gr.rP b ρ ns r.1/\Gr.rP b ρ ns r.2/\(Gr.rk b ρ r.1).deep<=24/\(Gr.rk b ρ r.2).deep<=24/\(Gr.rk b ρ r.1).parts<=390/\(Gr.rk b ρ r.2).parts<=390
def KS (K:Qn) (C:Addr):Sp:=fun vs H Q _=>∃ (v u:V) (d:Addr) (b:Bk) (ρ:Str->Lad) (ns:List Str) (r:Ru),vs=[v,.ref d,u]/\hJ K C H v b/\b.length<=1000/\oP K H d ρ ns/\Dp K H u (Ru.enc r)/\r.1.deep < 20/\r.2.deep < 20/\r.1.parts<=900/\r.2.parts<=900/\vO b ρ ns r/\∀ (x:V) (H':Hp),SB [] H H'->LA K H' x (fh b ρ r)->Q x H'
theorem KI (b:Bk) (ρ:Str->Lad):fh b ρ (.nil,.nil)=Lad.b9:=by
 show Lad.oO (Gr.rk b ρ .nil) (Gr.rk b ρ .nil)=Lad.b9;have e:Gr.rk b ρ .nil=.nil:=by
  show Lad.ofPs (jn (Lad.mM []))=.nil;have:Lad.mM []=[]:=List.Perm.eq_nil (Lad.bG []);rw [this]; rfl
 rw [e];show Lad.cu .nil Lad.b9=Lad.b9;rw [Lad.ku];exact Lad.mN Lad.fE
theorem Sn (b:Bk) (ρ:Str->Lad) (ns:List Str):vO b ρ ns (.nil,.nil):=by
 have e:Gr.rk b ρ .nil=.nil:=by
  show Lad.ofPs (jn (Lad.mM []))=.nil;have:Lad.mM []=[]:=List.Perm.eq_nil (Lad.bG []);rw [this]; rfl
 exact ⟨trivial,trivial,by show (Gr.rk b ρ .nil).deep<=24; rw [e]; decide,by show (Gr.rk b ρ .nil).deep<=24; rw [e]; decide,by show (Gr.rk b ρ .nil).parts<=390; rw [e]; decide,by show (Gr.rk b ρ .nil).parts<=390; rw [e]; decide⟩
structure OwnR (b:Bk) (ρ:Str->Lad):Prop where
 own:∀ k ∈ b,EndK b k.n->ρ k.n=Lad.eU Lad.b9 (k.rs.map (fh b ρ))
 fit:∀ k ∈ b,EndK b k.n->∀ ns,(∀ n,n ∈ adj b k.n->n ∈ ns)->∀ r ∈ k.rs,vO b ρ ns r
 deep:∀ k ∈ b,EndK b k.n->∀ r ∈ k.rs,(fh b ρ r).deep<=45
structure EndO (b:Bk) (es:List Str):Prop where
 nd:es.Nodup
 len:es.length<=8
 mem:∀ n,n ∈ es ↔ n ∈ b.names/\EndK b n
 ord:∀ (i:Nat) (n:Str),es[i]?=some n->∀ k ∈ adj b n,k ∈ es.take i
def S8 (K:Qn) (C N:Addr):Sp:=fun vs H Q E=>∃ (v:V) (b:Bk),vs=[v]/\hJ K C H v b/\b.Ok/\∀ (l:Addr) (es:List Str) (H':Hp),SB [] H H'->H l=none->H' l=some (.lst (es.map V.str))->EndO b es->Q (.ref l) H'
def Tf (K:Qn) (C N:Addr):Sp:=fun vs H Q _=>∃ (v:V) (b:Bk) (ρ:Str->Lad),vs=[v]/\hJ K C H v b/\b.Ok/\OwnR b ρ/\∀ (d:Addr) (es:List Str) (H':Hp),SB [] H H'->H d=none->oP K H' d ρ es->EndO b es->Q (.ref d) H'
theorem oP.put {K:Qn} {H:Hp} {n:Str} (h:oP K H d ρ ns) (hn:n ∉ ns) (hl:ns.length<=1000) (hx:LA K H x (ρ n)):∃ H',DPut H d (.str n) x H'/\SB [d] H H'/\oP K H' d ρ (ns++[n]):=by
 obtain ⟨us,h1,h2⟩:=h;have kY:=sizeLine_eq;have ul:us.length=ns.length:=by rw [h2.length,Ye]
 have t:=SB.lh (ps:=[d]) h1 (by simp) (.dK (putK (List.zipWith (fun (n:Str) (u:V)=>((Sum.inr n:Key),u)) ns us) (Sum.inr n) x));have e:putK (List.zipWith (fun (n:Str) (u:V)=>((Sum.inr n:Key),u)) ns us) (Sum.inr n) x=List.zipWith (fun (n:Str) (u:V)=>((Sum.inr n:Key),u)) (ns++[n]) (us++[x]):=by
  rw [K4 fun p hp z=>?_,List.zipWith_append (by omega)]
  ·rfl
  ·clear t h1 h2 ul
   induction ns generalizing us with
   | nil=>cases hp
   | cons m r ih =>
    cases us with
    | nil=>cases hp
    | cons u us =>
     rw [List.zipWith_cons_cons] at hp;rcases Qv hp with rfl | hp
     ·exact hn (List.mem_cons.mpr (.inl (Sum.inr.inj z).symm))
     ·exact ih (fun h=>hn (bI _ h)) (by simp at hl; omega) us hp
 refine ⟨_,DPut.k (k:=Sum.inr n) h1 (by rw [List.length_zipWith]; omega),t,us++[x],?_,?_⟩
 ·rw [Qt,e]
 ·rw [Yj];exact (h2.sb t Lad.af).append (.cons (LA.sb hx t) .nil)
namespace Lad
theorem tN {n:Nat}:∀ {l:Lad},(∀ p ∈ l.ps,p.1.deep < n)->l.deep<=n
 | .nil,_=>Nat.zero_le _
 | .cons e m r,h=>by
  have h1:=h (e,m) (bw ..);have h2:=tN (l:=r) fun p hp=>h p (bI _ hp);have h1:e.deep < n:=h1;show max (1+e.deep) r.deep<=n;omega
theorem v7 {e:Lad} (hm:1<=m):bM (.cons e 1 .nil) m=.cons e m .nil:=by
 unfold bM;rw [if_neg (by omega)];show Lad.cons e (1*m) .nil=_;rw [Int.one_mul]
end Lad
theorem z6y {K:Qn} {H:Hp}:∀ ks:List Str,Bears K H PyData.str (ks.map V.str) ks
 | []=>.nil
 | k::r=>.cons (.str k) (z6y r)
section
variable {K:Qn} {H:Hp} {σ:L2.St} {i:Nat} {N:Addr} {n:Str} {zs:List V}
theorem tupI {as:TA} (h:as σ H fun xs H1=>xs.length<=sizeLine/\∀ p,H1 p=none->Q (.ref p) (upd H1 p (.tup xs))):tTup as σ H Q:=h
end
theorem YR {n:Str} (hn:dN n) (hm:1<=m) (hC:m < C):(Gr.cons n .nil m .nil).Ok C:=⟨hn,trivial,hm,hC,trivial,by simp [Gr.ps]⟩
abbrev X4:R2:=fun x y H Q=>∃ (z:Str) (n:Nat),x=.str z/\y=.int (n:Int)/\n<=1000/\z.length<=1000/\Q (.str (Txt.mul z (n:Int))) H
theorem zcn (hn:n<=1000) (hz:z.length<=1000):MulOk z (n:Int):=by
 have hp:z.length*n<=1000*1000:=Nat.mul_le_mul hz hn;refine ⟨?_,fun h1 _=>?_,fun h1 _=>?_⟩
 ·rw [Qz (by omega),Qz (by omega)]; rfl
 ·have:(z.length:Int)<=(2 ^ 63-1) / (n:Int):=by
   refine (Int.le_ediv_iff_mul_le (by omega)).mpr ?_;have:((z.length*n:Nat):Int)<=1000000:=by omega
   rw [Int.natCast_mul] at this;omega
  omega
 ·rw [Int.toNat_natCast];unfold Builtin.Str.tooLong;rw [Qz];have:=sizeLine_eq;omega
theorem zej {X:Cx}:OpR X (binaryOp .Mult) X4:=by
 intro pins s σ H x y v u Q I rx ry h;obtain ⟨z,n,rfl,rfl,hn,hz,q⟩:=h;obtain ⟨t,rfl⟩:=rx;obtain ⟨t',rfl⟩:=ry;exact PySem.SB.mul (zcn hn hz) (fun t' tk=>⟨.str (Txt.mul z (n:Int)),H,I.tok _,⟨_,Ja⟩,q⟩)
theorem ZH (c:Nat):∀ (n:Nat) (b:Array Nat),((List.replicate n (#[c]:Array Nat)).foldl (·++·) b).toList=b.toList++List.replicate n c
 | 0,b=>by simp
 | n+1,b=>by
  rw [List.replicate_succ,List.foldl_cons,ZH c n];simp [List.replicate_succ]
theorem mul_one (c n:Nat):(Txt.mul ⟨#[c]⟩ (n:Int)).cps.toList=List.replicate n c:=by
 unfold Txt.mul;by_cases h1:(n:Int) < 1
 ·rw [if_pos h1];have:n=0:=by omega
  subst this; rfl
 ·rw [if_neg h1];by_cases h2:((n:Int) == 1 || (⟨#[c]⟩:Str).length == 0)=true
  ·rw [if_pos h2];have:n=1:=by
    have e:((⟨#[c]⟩:Str).length == 0)=false:=rfl;rw [e,Bool.or_false] at h2;have:=beq_iff_eq.mp h2;omega
   subst this; rfl
  ·rw [if_neg h2,Int.toNat_natCast];exact (ZH c n #[]).trans (by simp)
theorem jN.mul {c:Nat} (n:Nat) (h:97<=c/\c<=122):jN (Txt.mul ⟨#[c]⟩ (n:Int)) n:=by
 refine ⟨?_,fun x hx=>?_⟩
 ·rw [mul_one]; simp
 ·rw [mul_one] at hx;rw [List.eq_of_mem_replicate hx]; exact h
theorem oP.none {K:Qn} {H:Hp} {d:Addr} {ρ:Str->Lad} {ns:List Str} {n:Str} (h:oP K H d ρ ns) (hn:n ∉ ns):DGet H d (.str n) none:=by
 obtain ⟨us,h1,h2⟩:=h;refine .inl ⟨_,Sum.inr n,.inl h1,Ja,?_⟩;unfold valV;have:List.find? (fun kv:Key × V=>decide (kv.1=Sum.inr n)) (List.zipWith (fun (n:Str) (u:V)=>((Sum.inr n:Key),u)) ns us)=Option.none:=by
  refine List.find?_eq_none.mpr fun x hx=>?_;have key:∀ (ns:List Str) (us:List V),x ∈ List.zipWith (fun (n:Str) (u:V)=>((Sum.inr n:Key),u)) ns us->∃ m ∈ ns,x.1=Sum.inr m:=by
   intro ns
   induction ns with
   | nil=>intro us h; cases h
   | cons m r ih =>
    intro us h;cases us with
    | nil=>cases h
    | cons u us =>
     rw [List.zipWith_cons_cons] at h;rcases Qv h with rfl | h
     ·exact ⟨m,bw ..,Ja⟩
     ·obtain ⟨m',h1,h2⟩:=ih us h;exact ⟨m',bI _ h1,h2⟩
  obtain ⟨m,hm,e⟩:=key ns us hx;rw [e];simp only [decide_eq_true_eq];exact fun z=>hn (by rw [<- Sum.inr.inj z]; exact hm)
 rw [this]; rfl
theorem j8 (nd:ks.Nodup) {i j:Nat} {n:Str} (hi:ks[i]?=some n) (hj:ks[j]?=some n):i=j:=by
 obtain ⟨h1,e1⟩:=Kq hi;obtain ⟨h2,e2⟩:=Kq hj;rcases Nat.lt_trichotomy i j with h | h | h
 ·exact absurd (e1.trans e2.symm) (List.pairwise_iff_getElem.mp nd i j h1 h2 h)
 ·exact h
 ·exact absurd (e2.trans e1.symm) (List.pairwise_iff_getElem.mp nd j i h2 h1 h)
theorem KdAll.more {K:Qn} {H:Hp} {bad:List Addr} {R:Addr} (hR:H R=none):∀ {vs:List V} {b:Bk},KdAll K H bad vs b->KdAll K H (R::bad) vs b
 | _,_,.nil=>.nil
 | _,_,.cons a t=>by
  obtain ⟨t1,l,zs,e,h1,h2,h3,h4⟩:=a;refine .cons ⟨t1,l,zs,e,h1,h2,h3,fun z=>?_⟩ (KdAll.more hR t);rcases Qv z with z | z
  ·rw [z,hR] at h2; cases h2
  ·exact h4 z
theorem hO (n:Nat):(1:Int)<=2 ^ n:=by
 have:(0:Int) < 2 ^ n:=Int.pow_pos (by decide);omega
theorem jm {a b:Nat} (h:a<=b):(2:Int) ^ a<=2 ^ b:=by
 obtain ⟨k,rfl⟩:=Nat.le.dest h;rw [Int.pow_add];have h1:=hO a;have h2:=hO k;have:=Int.mul_le_mul_of_nonneg_left h2 (show (0:Int)<=2 ^ a by omega);omega
theorem yd (a:Nat):(2:Int) ^ (a+1)=2*2 ^ a:=by rw [Int.pow_succ]; omega
namespace Lad
theorem iI {w:Bool} {l:Lad} (ho:o.Ok B) (hl:l.Ok C) (hB:1<=B) (hC:1<=C):(dJ w o l).Ok (B+C):=by
 unfold dJ;cases w with
 | false=>exact fJ ho hl hB hC
 | true =>
  rw [if_pos rfl];cases o with
  | nil =>
   cases l with
   | nil=>trivial
   | cons e m r=>exact hl.mono (by omega)
  | cons e m r =>
   cases l with
   | nil=>exact ho.mono (by omega)
   | cons e2 m2 r2 =>
    show (Lad.cons (cI e (.cons e2 m2 r2)) 1 .nil).Ok _;exact ⟨fJ ho.1 hl hB hC,by decide,by omega,trivial,by simp [ps]⟩
theorem gG (w:Bool) (o l:Lad):(dJ w o l).parts<=o.parts+l.parts:=by
 unfold dJ;cases w with
 | false=>exact fC o l
 | true =>
  rw [if_pos rfl];cases o with
  | nil=>cases l <;> simp [spd,parts]
  | cons e m r =>
   cases l with
   | nil=>show (Lad.cons e m r).parts<=_; omega
   | cons e2 m2 r2 =>
    have:=fC e (.cons e2 m2 r2);show 1+(cI e (.cons e2 m2 r2)).parts+0<=1+e.parts+r.parts+_;omega
theorem kc {w:Bool} {l:Lad} (ho:o.deep<=n) (hl:l.deep<=n):(dJ w o l).deep<=n+1:=by
 unfold dJ;cases w with
 | false=>exact Nat.le_succ_of_le (eV ho hl)
 | true =>
  rw [if_pos rfl];cases o with
  | nil=>cases l with
   | nil=>exact Nat.zero_le _
   | cons e m r=>exact Nat.le_succ_of_le hl
  | cons e m r =>
   cases l with
   | nil=>exact Nat.le_succ_of_le ho
   | cons e2 m2 r2 =>
    have he:e.deep<=n:=by
     have:max (1+e.deep) r.deep<=n:=ho;omega
    have:=eV he hl;show max (1+(cI e (.cons e2 m2 r2)).deep) 0<=n+1;omega
theorem ee (h:∀ l ∈ ls,l.Ok B) (hB:0<=B) (hD:B<=D) (hs:∀ x,(ls.map fun l=>S l x).sum < D):(aZ ls).Ok D:=by
 have hd:(jn (mM (ls.flatMap ps))).Pairwise (fun p q=>q.1.lt p.1=true):=wC (tM _);show (ofPs (jn (mM (ls.flatMap ps)))).Ok D;rw [eF];refine ⟨fun p hp=>?_,hd⟩;have Jf:∀ (bs:List (Lad × Int)),bs.Pairwise (fun p q=>q.1.lt p.1=true)->∀ p ∈ bs,aG bs p.1=p.2:=by
  intro bs
  induction bs with
  | nil=>intro _ p hp; cases hp
  | cons q r ih =>
   intro Vk p hp;obtain ⟨e,m⟩:=q;obtain ⟨h1,h2⟩:=List.pairwise_cons.mp Vk;rw [ay];rcases Qv hp with hp | hp
   ·subst hp;rw [if_pos rfl,dH fun q hq=>dk (h1 q hq)];omega
   ·rw [if_neg (fun z=>dk (h1 p hp) z.symm),ih h2 p hp];omega
 have e1:aG (jn (mM (ls.flatMap ps))) p.1=p.2:=Jf _ hd p hp;have e2:p.2=(ls.map fun l=>S l p.1).sum:=by
  rw [<- e1,<- Gr.lS];show _=aG (aZ ls).ps p.1;unfold aZ;rw [aK]
 obtain ⟨q,hq,eq⟩:=EM _ p hp;have rq:=(bG _).mem_iff.mp hq;obtain ⟨l,hl,Ry⟩:=List.mem_flatMap.mp rq;have qo:=(aV.mp (h l hl)).1 q Ry;have pos:∀ (ks:List Lad),(∀ l ∈ ks,l.Ok B)->0<=(ks.map fun l=>S l p.1).sum/\∀ l ∈ ks,S l p.1<=(ks.map fun l=>S l p.1).sum:=by
  intro ks
  induction ks with
  | nil=>intro _; exact ⟨Kw _,fun l hl=>nomatch hl⟩
  | cons k r ih =>
   intro hk;obtain ⟨i1,i2⟩:=ih fun l hl=>hk l (bI _ hl);have n1:=bW (hk k (bw ..)) p.1;rw [Ky,List.sum_cons];refine ⟨by omega,fun l hl=>?_⟩;rcases Qv hl with rfl | hl
   ·omega
   ·have:=i2 l hl; omega
 have s1:=(pos ls h).2 l hl;have s2:S l p.1=q.2:=by rw [<- eq]; exact iR (h l hl) Ry
 have s3:=hs p.1;refine ⟨?_,by omega,by omega⟩;rw [<- eq]; exact qo.1.mono hD
theorem cV (ls:List Lad):(aZ ls).parts<=(ls.map parts).sum:=by
 have e:∀ ls:List Lad,tot (ls.flatMap ps)=(ls.map parts).sum:=by
  intro ls
  induction ls with
  | nil=>rfl
  | cons l r ih =>
   rw [List.flatMap_cons,aT,ih,Ky,List.sum_cons];have:tot l.ps=l.parts:=by
    have:=aP l.ps;rw [aE] at this; exact this.symm
   rw [this]
 show (ofPs (jn (mM (ls.flatMap ps)))).parts<=_;rw [aP,<- e];exact Yb (qt _) (Nat.le_of_eq (jX (bG _)))
theorem dP (h:∀ l ∈ ls,l.deep<=n):(aZ ls).deep<=n:=by
 refine tN fun p hp=>?_;unfold aZ at hp;rw [aK] at hp;obtain ⟨q,hq,e⟩:=EM _ p hp;obtain ⟨l,hl,Ry⟩:=List.mem_flatMap.mp ((bG _).mem_iff.mp hq);have:=l.av q Ry;have:=h l hl;rw [<- e]; omega
end Lad
namespace Gr
variable {b:Bk} {ρ σ:Str->Lad} {C:Int} {ns:List Str}
theorem lF:rk b ρ .nil=.nil:=by
 show Lad.ofPs (jn (Lad.mM []))=.nil;have:Lad.mM []=[]:=List.Perm.eq_nil (Lad.bG []);rw [this]; rfl
theorem lG:∀ {g:Gr},(∀ x ∈ g.within,ρ x.1.1=σ x.1.1)->rkT b ρ g=rkT b σ g
 | .nil,_=>rfl
 | .cons k g m r,h=>by
  have e1:=h ((k,g),m) (bw ..);have e2:=lG (g:=g) fun x hx=>h x (bI _ (gR _ hx));have e3:=lG (g:=r) fun x hx=>h x (bI _ (jr _ hx));show Lad.bM (dJ (b.wide k) (ρ k) (Lad.aZ (rkT b ρ g))) m::rkT b ρ r=_::rkT b σ r;rw [e2,e3,show ρ k=σ k from e1]
theorem sQ {g:Gr} (h:∀ x ∈ g.within,ρ x.1.1=σ x.1.1):rk b ρ g=rk b σ g:=by unfold rk; rw [lG h]
theorem d4 {P D:Nat} (hk:∀ n ∈ ns,(ρ n).parts<=P/\(ρ n).deep<=D):∀ {g:Gr},Named ns g->((rkT b ρ g).map Lad.parts).sum<=P*g.parts/\∀ l ∈ rkT b ρ g,l.deep<=D+g.deep
 | .nil,_=>And.intro (Nat.zero_le _) (fun l hl=>nomatch hl)
 | .cons k g m r,h=>by
  have mw:k ∈ ns:=h ((k,g),m) (bw ..);obtain ⟨g1,g2⟩:=d4 hk (g:=g) fun x hx=>h x (bI _ (gR _ hx));obtain ⟨r1,r2⟩:=d4 hk (g:=r) fun x hx=>h x (bI _ (jr _ hx));obtain ⟨k1,k2⟩:=hk k mw;have ip:(Lad.aZ (rkT b ρ g)).parts<=P*g.parts:=Yb (Lad.cV _) g1;have B4:(Lad.aZ (rkT b ρ g)).deep<=D+g.deep:=Lad.dP g2;have lp:=Lad.gG (b.wide k) (ρ k) (Lad.aZ (rkT b ρ g));have tp:=Lad.iV (dJ (b.wide k) (ρ k) (Lad.aZ (rkT b ρ g))) m;have ld:=Lad.kc (w:=b.wide k) (o:=ρ k) (l:=Lad.aZ (rkT b ρ g)) (n:=D+g.deep) (by omega) B4;have e1:(Gr.cons k g m r).parts=1+g.parts+r.parts:=rfl;have e2:(Gr.cons k g m r).deep=max (1+g.deep) r.deep:=rfl;refine ⟨?_,fun l hl=>?_⟩
  ·show (Lad.bM (dJ (b.wide k) (ρ k) (Lad.aZ (rkT b ρ g))) m).parts+((rkT b ρ r).map Lad.parts).sum<=_;rw [e1,Nat.mul_add,Nat.mul_add,Nat.mul_one];omega
  ·rw [e2];rcases Qv hl with rfl | hl
   ·have:=Lad.iw (n:=D+g.deep+1) m ld;omega
   ·have:=r2 l hl; omega
end Gr
theorem yu {rs:List Ru} (hr:r ∈ rs) {x:Tr × Int} (hx:x ∈ Ru.within r):x.1.1 ∈ nV rs:=List.mem_flatMap.mpr ⟨r,hr,Ku ⟨x,hx,rfl⟩⟩
theorem zbz {σ:Str->Lad} (h:∀ x ∈ Ru.within r,ρ x.1.1=σ x.1.1):fh b ρ r=fh b σ r:=by
 unfold fh;rw [Gr.sQ fun x hx=>h x (gR _ hx),Gr.sQ fun x hx=>h x (jr _ hx)]
def Bk.rules (b:Bk) (n:Str):List Ru:=match b.get n with
 | some k=>k.rs
 | none=>[]
def KQ (b:Bk) (k n:Str):Prop:=k ∈ adj b n/\EndK b n
theorem zch (b:Bk):WellFounded (KQ b):=by
 have h1:∀ n,EndK b n->Acc (KQ b) n:=fun n h=>by
  induction h with
  | mk _ ih=>exact ⟨_,fun y hy=>ih y hy.1⟩
 exact ⟨fun n=>⟨n,fun y hy=>h1 y (hy.2.next hy.1)⟩⟩
open Classical in
noncomputable def LP (b:Bk) (n:Str) (rec:∀ k,KQ b k n->Lad):Lad:=Lad.eU Lad.b9 ((b.rules n).map (fh b fun k=>if h:KQ b k n then rec k h else Lad.b9))
noncomputable def cg (b:Bk):Str->Lad:=(zch b).fix (LP b)
theorem QG (ok:b.Ok) {k:Kd} (hk:k ∈ b) (he:EndK b k.n):cg b k.n=Lad.eU Lad.b9 (k.rs.map (fh b (cg b))):=by
 unfold cg;rw [WellFounded.fix_eq];unfold LP;have er:b.rules k.n=k.rs:=by unfold Bk.rules; rw [Bk.gI ok.nd hk]
 rw [er]
 congr 1
 refine List.map_congr_left fun r hr=>zbz fun x hx=>?_;have hl:KQ b x.1.1 k.n:=⟨by rw [C9 ok hk]; exact yu hr hx,he⟩;rw [dif_pos hl]
theorem Gr.rP.mono {b:Bk} {ρ:Str->Lad} {ns ms:List Str} (h:∀ n ∈ ns,n ∈ ms):∀ {g:Gr},Gr.rP b ρ ns g->Gr.rP b ρ ms g
 | .nil,_=>trivial
 | .cons k g m r,hf=>by
  obtain ⟨⟨h1,h2,h3,h4,h5,h6,h7,h8,h9⟩,hg,hr⟩:=hf;exact ⟨⟨h _ h1,h2,h3,h4,h5,h6,h7,h8,h9⟩,Gr.rP.mono h hg,Gr.rP.mono h hr⟩
theorem Ta {α:Type} {p q:α->Bool}:∀ {l:List α},(∀ x ∈ l,p x=true->q x=true)->(∃ x ∈ l,q x=true/\p x=false)->(l.filter p).length < (l.filter q).length
 | [],_,⟨x,hx,_⟩=>nomatch hx
 | a::r,h,⟨x,hx,hq,hp⟩=>by
  have hr:∀ x ∈ r,p x=true->q x=true:=fun y hy=>h y (bI _ hy);have le:∀ l:List α,(∀ x ∈ l,p x=true->q x=true)->(l.filter p).length<=(l.filter q).length:=by
   intro l
   induction l with
   | nil=>intro _; exact Yc _
   | cons c s ih =>
    intro hc;have:=ih fun y hy=>hc y (bI _ hy);cases A8:p c with
    | true =>
     rw [List.filter_cons_of_pos A8,List.filter_cons_of_pos (hc c (bw ..) A8)];simpa using this
    | false =>
     rw [List.filter_cons_of_neg (by simp [A8])];cases hqc:q c with
     | true=>rw [List.filter_cons_of_pos hqc,Yk]; omega
     | false=>rw [List.filter_cons_of_neg (by simp [hqc])]; exact this
  rcases Qv hx with rfl | hx
  ·rw [List.filter_cons_of_neg (by simp [hp]),List.filter_cons_of_pos hq,Yk];have:=le r hr;omega
  ·have ih:=Ta hr ⟨x,hx,hq,hp⟩;cases A8:p a with
   | true =>
    rw [List.filter_cons_of_pos A8,List.filter_cons_of_pos (h a (bw ..) A8)];simpa using ih
   | false =>
    rw [List.filter_cons_of_neg (by simp [A8])];cases hqc:q a with
    | true=>rw [List.filter_cons_of_pos hqc,Yk]; omega
    | false=>rw [List.filter_cons_of_neg (by simp [hqc])]; exact ih
open Classical in
noncomputable def CS (b:Bk) (n:Str):Nat:=(b.names.filter fun k=>decide (Rch b n k)).length
theorem So (ok:b.Ok) {n k:Str} (he:EndK b n) (hk:k ∈ adj b n):CS b k < CS b n:=by
 refine Ta (fun x _ hx=>?_) ⟨k,Dc ok hk,?_,?_⟩
 ·simp only [decide_eq_true_eq] at hx ⊢;exact Rch.cons hk hx
 ·simp only [decide_eq_true_eq]; exact .one hk
 ·simp only [decide_eq_false_iff_not]; exact (he.next hk).vh
theorem ZZ {n:Str} (he:EndK b n) (hn:n ∈ b.names):CS b n < b.length:=by
 have h:=Ta (p:=fun k=>@decide (Rch b n k) (Classical.propDecidable _)) (q:=fun _=>true) (l:=b.names) (fun _ _ _=>rfl) ⟨n,hn,rfl,by simp only [decide_eq_false_iff_not]; exact he.vh⟩;have e:(b.names.filter fun _=>true).length=b.length:=by rw [List.filter_eq_self.mpr (fun _ _=>rfl),Ye]
 rw [e] at h;exact h
def Pm (m:Nat):Nat->Nat
 | 0=>2
 | c+1=>m*Pm m c+2
theorem YV (m:Nat):∀ c,2<=Pm m c
 | 0=>Yc _
 | c+1=>Nat.le_add_left _ _
theorem Sf (e:Lad):∀ bs:List (Lad × Int),((bs.filter fun x=>decide (x.1=e)).map (·.2)).sum=Lad.aG bs e
 | []=>rfl
 | (y,m)::r=>by
  rw [Lad.ay];by_cases he:y=e
  ·rw [List.filter_cons_of_pos (by simp [he]),Ky,List.sum_cons,Sf e r,if_pos he]
  ·rw [List.filter_cons_of_neg (by simp [he]),Sf e r,if_neg he]; omega
theorem P8 {K:Qn} {H:Hp} {σ:L2.St} (q:∀ (x:V) (H':Hp),SB [] H H'->LA K H' x Lad.b9->Q x H'):tTup (tCons (tTup (tCons (tTup tNil) (tCons (tC (.int 1)) tNil))) tNil) σ H Q:=by
 refine ⟨Z0,fun e ne=>?_⟩;have u1:=Jb ne (.tup []);have h1:=dZ u1;generalize upd H e _=H1 at u1 h1;refine ⟨dU,fun t nt=>?_⟩;have u2:=Jb nt (.tup [.ref e,.int 1]);have h2:=dZ u2;generalize upd H1 t _=H2 at u2 h2;refine ⟨Z1,fun r nr=>?_⟩;have u3:=Jb nr (.tup [.ref t]);exact q _ _ ((u1.trans u2).trans u3) (KJ (SqT.of Qt) (u3.aH (SqT.of h2)) ((uf (SqT.of h1)).sb (u2.trans u3)))
theorem Lad.xC (x:Lad) (ys:List Lad) (y:Lad):Lad.eU x (ys++[y])=if (Lad.eU x ys).lt y=true then y else Lad.eU x ys:=by
 unfold Lad.eU;rw [List.foldl_append]; rfl
theorem z4x:∀ {bs:List (Tr × Int)},(∀ p ∈ bs,0<=p.2)->0<=cE bs
 | [],_=>Kw _
 | p::r,h=>by
  have h1:=h p (bw ..);have h2:=z4x (bs:=r) fun q hq=>h q (bI _ hq);show 0<=p.2+cE r;omega
theorem zb6 {g k:Gr} (hg:(Gr.rk b ρ g).Ok B) (hk:(Gr.rk b ρ k).Ok C) (hB:1<=B) (hC:1<=C) (hj:(Gr.rk b ρ (Gr.tidy (g.ps++k.ps))).Ok D):(Gr.rk b ρ (Gr.tidy (g.ps++k.ps)))=(Gr.rk b ρ g).cu (Gr.rk b ρ k):=by
 refine Lad.ext hj (Lad.gW hg hk hB hC) fun x=>?_;rw [Lad.dz,Gr.rN,Gr.rN,Gr.rN,<- Tj];refine QB _ _ _ _ (Yc _) fun t=>?_;unfold Gr.tidy;rw [Gr.aK,Iz]
def zk (ns:List Str) (us:List V):List (Key × V):=List.zipWith (fun (n:Str) (u:V)=>((Sum.inr n:Key),u)) ns us
theorem SF:∀ {ns:List Str} {us:List V},us.length=ns.length->(zk ns us).map (·.1)=ns.map Sum.inr
 | [],[],_=>rfl
 | [],_::_,h=>by simp at h
 | _::_,[],h=>by simp at h
 | n::r,u::us,h=>by
  have:=SF (ns:=r) (us:=us) (by simpa using h);show Sum.inr n::(zk r us).map (·.1)=_;rw [this]; rfl
namespace Lad
def R (l:Lad):Prop:=∃ B:Int,1<=B/\l.Ok B
variable {a b c d l k o:Lad} {m n:Int} {w:Bool}
theorem R.nil:R .nil:=⟨1,by decide,trivial⟩
theorem R.cu (h:R l) (g:R k):R (l.cu k):=by
 obtain ⟨B,hB,h⟩:=h;obtain ⟨C,hC,g⟩:=g;exact ⟨B+C,by omega,gW h g hB hC⟩
theorem R.cI (h:R l) (g:R k):R (l.cI k):=by
 obtain ⟨B,hB,h⟩:=h;obtain ⟨C,hC,g⟩:=g;exact ⟨B+C,by omega,fJ h g hB hC⟩
theorem R.bM (h:R l) (hm:0<=m):R (l.bM m):=by
 obtain ⟨B,hB,h⟩:=h;have:=Int.mul_nonneg (show 0<=B by omega) hm;exact ⟨B*m+B,by omega,gM h hm⟩
theorem R.oO (h:R l) (g:R k):R (l.oO k):=by
 obtain ⟨B,hB,h⟩:=h;obtain ⟨C,hC,g⟩:=g;exact ⟨B+(C+2),by omega,rM h g hB hC⟩
theorem R.dJ (h:R o) (g:R l):R (dJ w o l):=by
 obtain ⟨B,hB,h⟩:=h;obtain ⟨C,hC,g⟩:=g;exact ⟨B+C,by omega,iI h g hB hC⟩
theorem R.b9:R b9:=⟨2,by decide,fE⟩
theorem R.ext (h:R l) (g:R k) (e:∀ x,S l x=S k x):l=k:=by
 obtain ⟨B,hB,h⟩:=h;obtain ⟨C,hC,g⟩:=g;exact Lad.ext h g e
theorem R.lt_iff (h:R l) (g:R k):l.lt k=true ↔ Au l k:=by
 obtain ⟨B,hB,h⟩:=h;obtain ⟨C,hC,g⟩:=g;exact Lad.lt_iff h g
theorem R.common:∀ {ls:List Lad},(∀ l ∈ ls,R l)->∃ B:Int,1<=B/\∀ l ∈ ls,l.Ok B
 | [],_=>⟨1,by decide,fun l h=>nomatch h⟩
 | x::r,h=>by
  obtain ⟨B,hB,hx⟩:=h x (bw ..);obtain ⟨C,hC,hr⟩:=R.common (ls:=r) fun l hl=>h l (bI _ hl);refine ⟨B+C,by omega,fun l hl=>?_⟩;rcases Qv hl with e | e
  ·rw [e]; exact hx.mono (by omega)
  ·exact (hr l e).mono (by omega)
theorem mW {B:Int} (hB:0<=B) (x:Lad):∀ {ls:List Lad},(∀ l ∈ ls,l.Ok B)->(ls.map fun l=>S l x).sum<=ls.length*B
 | [],_=>by simp
 | y::r,h=>by
  have h1:=vg (h y (bw ..)) hB x;have h2:=mW hB x (ls:=r) fun l hl=>h l (bI _ hl);rw [Ky,List.sum_cons,Yk];have:((r.length+1:Nat):Int)*B=r.length*B+B:=by rw [Int.natCast_add,Int.add_mul]; simp
  omega
theorem R.aZ {ls:List Lad} (h:∀ l ∈ ls,R l):R (aZ ls):=by
 obtain ⟨B,hB,hb⟩:=R.common h;have hl:(0:Int)<=ls.length*B:=Int.mul_nonneg (Int.natCast_nonneg _) (by omega);exact ⟨ls.length*B+B+1,by omega,ee hb (by omega) (by omega) fun x=>by have:=mW (by omega) x hb; omega⟩
theorem xX (hl:R l) (h:∀ k ∈ ls,R k):Lad.aZ (l::ls)=l.cu (Lad.aZ ls):=by
 refine R.ext (R.aZ fun k hk=>?_) (hl.cu (R.aZ h)) fun x=>?_
 ·rcases Qv hk with e | e
  ·rw [e]; exact hl
  ·exact h k e
 ·rw [Gr.lS,dz,Gr.lS,Ky,List.sum_cons]
def Le (a b:Lad):Prop:=b.lt a=false
theorem Le.refl:Le a a:=lt_irrefl a
theorem Le.trans (h:Le a b) (g:Le b c):Le a c:=le_trans h g
theorem Le.of_lt (h:a.lt b=true):Le a b:=le_of_lt h
theorem Le.nil:Le .nil a:=cL a
theorem Le.cases (h:Le a b):a=b\/a.lt b=true:=by
 by_cases e:a=b
 ·exact .inl e
 ·exact .inr (d6 b a (fun z=>e z.symm) h)
theorem L1 (g:a.lt b=true) (h:Le b c):a.lt c=true:=by
 rcases h.cases with e | e
 ·rw [<- e]; exact g
 ·exact lt_trans _ _ _ g e
theorem rJ (ra:R a) (rb:R b) (rc:R c) (h:b.lt c=true):(a.cu b).lt (a.cu c)=true:=by
 obtain ⟨A,hA,ra⟩:=ra;obtain ⟨B,hB,rb⟩:=rb;obtain ⟨C,hC,rc⟩:=rc;exact Ai ra rb rc hA hB hC h
theorem Le.cu (ra:R a) (rb:R b) (rc:R c) (rd:R d) (h:Le a b) (g:Le c d):Le (a.cu c) (b.cu d):=by
 refine Le.trans (b:=a.cu d) ?_ ?_
 ·rcases g.cases with e | e
  ·rw [e]; exact Le.refl
  ·exact Le.of_lt (rJ ra rc rd e)
 ·rw [ku a d,ku b d];rcases h.cases with e | e
  ·rw [e]; exact Le.refl
  ·exact Le.of_lt (rJ rd ra rb e)
theorem EW (ra:R a) (rb:R b) (hm:1<=m) (h:a.lt b=true):(a.bM m).lt (b.bM m)=true:=by
 obtain ⟨x,h1,h2⟩:=(ra.lt_iff rb).mp h;refine ((ra.bM (by omega)).lt_iff (rb.bM (by omega))).mpr ⟨x,?_,fun y hy=>?_⟩
 ·rw [iQ,iQ]; exact Int.mul_lt_mul_of_pos_right h1 (by omega)
 ·rw [iQ,iQ,h2 y hy]
theorem sq:bM l 0=.nil:=by simp [bM]
theorem Le.bM (ra:R a) (rb:R b) (hm:0<=m) (h:Le a b):Le (a.bM m) (b.bM m):=by
 by_cases m0:m=0
 ·rw [m0,sq]; exact Le.nil
 rcases h.cases with e | e
 ·rw [e]; exact Le.refl
 ·exact Le.of_lt (EW ra rb (by omega) e)
theorem qP (ra:R a) (rb:R b):Le a (a.cu b):=by
 obtain ⟨A,hA,ra⟩:=ra;obtain ⟨B,hB,rb⟩:=rb;exact Le.trans (Aj ra rb hA hB) (vM ra rb hA hB)
theorem EX (r:R l) (h0:0<=m) (h:m<=n):Le (l.bM m) (l.bM n):=by
 have e:l.bM n=(l.bM m).cu (l.bM (n-m)):=by
  refine R.ext (r.bM (by omega)) ((r.bM h0).cu (r.bM (by omega))) fun x=>?_;rw [dz,iQ,iQ,iQ,Int.mul_sub]; omega
 rw [e];exact qP (r.bM h0) (r.bM (by omega))
theorem jI (ra:R a) (rb:R b) (rc:R c) (h:b.lt c=true):(a.cI b).lt (a.cI c)=true:=by
 obtain ⟨A,hA,ra⟩:=ra;obtain ⟨B,hB,rb⟩:=rb;obtain ⟨C,hC,rc⟩:=rc;exact tR ra rb rc hA hB hC h
theorem qQ (ra:R a) (rb:R b):Le a (a.cI b):=by
 obtain ⟨A,hA,ra⟩:=ra;obtain ⟨B,hB,rb⟩:=rb;exact Aj ra rb hA hB
theorem R.exp {e:Lad} {m:Int} {r:Lad} (h:R (.cons e m r)):R e:=by
 obtain ⟨B,hB,h⟩:=h;exact ⟨B,hB,h.1⟩
theorem lQ (re:R a) (rl:R l) (h:l ≠ .nil):a.lt (a.cI l)=true:=by
 have h1:=jI re R.nil rl (nil_le l h)
 rwa [dC] at h1
theorem top_lt {e e2:Lad} {m m2:Int} {r r2:Lad} (h:e.lt e2=true):Lad.lt (.cons e m r) (.cons e2 m2 r2)=true:=by
 rw [dA,if_neg (dk h)]; exact h
theorem gD {e:Lad} {m:Int} {r:Lad} (h:l ≠ .nil):spd (.cons e m r) l=.cons (e.cI l) 1 .nil:=by
 cases l with
 | nil=>exact absurd rfl h
 | cons _ _ _=>rfl
theorem Fy (ro:R o) (rl:R l) (rk:R k) (ho:o ≠ .nil) (h:l.lt k=true):(dJ w o l).lt (dJ w o k)=true:=by
 cases w with
 | false=>exact jI ro rl rk h
 | true =>
  show (spd o l).lt (spd o k)=true;have hk:k ≠ .nil:=fun z=>by rw [z,cL] at h; cases h
  cases o with
  | nil=>exact absurd rfl ho
  | cons e m r =>
   rw [gD hk];by_cases hl:l=.nil
   ·rw [hl];show Lad.lt (.cons e m r) _=true;exact top_lt (lQ ro.exp rk hk)
   ·rw [gD hl];exact top_lt (jI ro.exp rl rk h)
theorem BU (ro:R o) (rl:R l) (ho:o ≠ .nil):Le o (dJ w o l):=by
 cases w with
 | false=>exact qQ ro rl
 | true =>
  show Le o (spd o l);cases o with
  | nil=>exact absurd rfl ho
  | cons e m r =>
   by_cases hl:l=.nil
   ·rw [hl]; exact Le.refl
   ·rw [gD hl]; exact Le.of_lt (top_lt (lQ ro.exp rl hl))
theorem Aq (rl:R l) (rk:R k) (hn:0<=n):(l.cu (k.bM n)).lt (l.oO k)=true:=by
 obtain ⟨B,hB,rl⟩:=rl;obtain ⟨C,hC,rk⟩:=rk;exact Hu rl rk hB hC hn
theorem l7 (rl:R l) (rk:R k) (ra:R a) (h:a.lt (l.oO k)=true) (hn:CO k a<=n):Le a (l.cu (k.bM n)):=by
 obtain ⟨A,hA,ra'⟩:=ra;have e0:=oD (k:=k) ra';have Ug:=rl;have Uh:=rk;obtain ⟨B,hB,rl⟩:=rl;obtain ⟨C,hC,rk⟩:=rk;have h1:Le a (l.cu (k.bM (CO k a))):=xZ rl rk ra' hB hC h;exact h1.trans (Le.cu Ug Ug (Uh.bM e0) (Uh.bM (by omega)) Le.refl (EX Uh e0 hn))
end Lad
namespace Gr
variable {b:Bk} {ρ σ:Str->Lad} {C:Int}
def RN (ρ:Str->Lad) (g:Gr):Prop:=∀ x ∈ g.within,Lad.R (ρ x.1.1)/\ρ x.1.1 ≠ .nil
theorem RN.cons {k:Str} {g r:Gr} {m:Int} (h:RN ρ (.cons k g m r)):(Lad.R (ρ k)/\ρ k ≠ .nil)/\RN ρ g/\RN ρ r :=
 ⟨h ((k,g),m) (bw ..),fun x hx=>h x (bI _ (gR _ hx)),fun x hx=>h x (bI _ (jr _ hx))⟩
theorem wk:∀ {g:Gr},g.Ok C->RN ρ g->∀ l ∈ rkT b ρ g,Lad.R l
 | .nil,_,_,l,hl=>nomatch hl
 | .cons k g m r,ho,h,l,hl=>by
  obtain ⟨h1,h2,h3⟩:=h.cons;obtain ⟨o1,o2,o3,o4,o5,_⟩:=ho;rcases Qv hl with e | e
  ·rw [e]; exact (h1.1.dJ (Lad.R.aZ (wk o2 h2))).bM (by omega)
  ·exact wk o5 h3 l e
theorem oY {g:Gr} (ho:g.Ok C) (h:RN ρ g):Lad.R (rk b ρ g):=Lad.R.aZ (wk ho h)
theorem BG {k:Str} {g r:Gr} (ho:(Gr.cons k g m r).Ok C) (h:RN ρ (.cons k g m r)):rk b ρ (.cons k g m r)=(Lad.bM (du b ρ (k,g)) m).cu (rk b ρ r):=by
 obtain ⟨h1,h2,h3⟩:=h.cons;obtain ⟨o1,o2,o3,o4,o5,_⟩:=ho;exact Lad.xX ((h1.1.dJ (oY o2 h2)).bM (by omega)) (wk o5 h3)
theorem BE {g:Gr} (hm:0<=m) (hg:Lad.R (rk b ρ g)) (hk:Lad.R (rk b ρ (fx g m))):rk b ρ (fx g m)=Lad.bM (rk b ρ g) m:=by
 refine Lad.R.ext hk (hg.bM hm) fun x=>?_;rw [rN,Lad.iQ,rN];by_cases h0:m=0
 ·subst h0; simp [fx,Gr.ps,wsum]
 ·rw [fx,if_neg h0,aK,sf]
theorem BF {g k:Gr} (hg:Lad.R (rk b ρ g)) (hk:Lad.R (rk b ρ k)) (hj:Lad.R (rk b ρ (mE g k))):rk b ρ (mE g k)=(rk b ρ g).cu (rk b ρ k):=by
 obtain ⟨B,hB,hg⟩:=hg;obtain ⟨C,hC,hk⟩:=hk;obtain ⟨D,hD,hj⟩:=hj;exact zb6 hg hk hB hC hj
theorem RN.named {g:Gr} (h:∀ n ∈ ns,Lad.R (ρ n)/\ρ n ≠ .nil) (hn:Named ns g):RN ρ g:=fun x hx=>h _ (hn x hx)
theorem Fc {n:Int} (iD:eW r) (hn:0<=n) (h:∀ n ∈ ns,Lad.R (ρ n)/\ρ n ≠ .nil) (h1:Named ns r.1) (h2:Named ns r.2):rk b ρ (gH r n)=(rk b ρ r.1).cu (Lad.bM (rk b ρ r.2) n):=by
 obtain ⟨o1,o2,_⟩:=iD;have r1:=oY (b:=b) o1 (RN.named h h1);have r2:=oY (b:=b) o2 (RN.named h h2);have ot:=gM o2 (by decide) hn;have nt:=i4 h2 n;have rt:=oY (b:=b) ot (RN.named h nt);have z:=Int.mul_nonneg (show (0:Int)<=1000000001 by decide) hn;have rj:=oY (b:=b) (fL o1 ot (by decide) (by omega)) (RN.named h (eM h1 nt));unfold gH;rw [BF r1 rt rj,BE hn r2 rt]
end Gr
theorem zjf (iD:eW r) (h:∀ n ∈ ns,Lad.R (ρ n)/\ρ n ≠ .nil) (h1:Gr.Named ns r.1) (h2:Gr.Named ns r.2):Lad.R (fh b ρ r):=(Gr.oY iD.1 (Gr.RN.named h h1)).oO (Gr.oY iD.2.1 (Gr.RN.named h h2))
theorem Bk.Ok.named (ok:b.Ok) {k:Kd} (hk:k ∈ b) {r:Ru} (hr:r ∈ k.rs):eW r/\Gr.Named b.names r.1/\Gr.Named b.names r.2:=by
 obtain ⟨h1,h2⟩:=(ok.kd k hk).2.2 r hr;exact ⟨h1,fun x hx=>h2 x (gR _ hx),fun x hx=>h2 x (jr _ hx)⟩
theorem zf4 (ok:b.Ok) {n:Str} (he:EndK b n):n ∈ b.names->Lad.R (cg b n)/\cg b n ≠ .nil:=by
 induction he with
 | mk h ih =>
  rename_i n;intro hn;obtain ⟨k,eg⟩:=Bk.d8 hn;obtain ⟨hk,rfl⟩:=Bk.get_some eg;have eq:=QG ok hk (.mk h);have kj:=C9 ok hk;have ne:cg b k.n ≠ .nil:=fun z=>by
   have:=Lad.ka (k.rs.map (fh b (cg b))) Lad.b9 Lad.b9 (bw ..);rw [<- eq,z] at this;rw [Lad.lt_nil_cons] at this; cases this
  refine ⟨?_,ne⟩;rw [eq];rcases Qv (Lad.gF (k.rs.map (fh b (cg b))) Lad.b9) with e | e
  ·rw [e]; exact Lad.R.b9
  ·obtain ⟨r,hr,e⟩:=Qx e;rw [<- e];have nm:Gr.Named (adj b k.n) r.1/\Gr.Named (adj b k.n) r.2:=⟨fun x hx=>by rw [kj]; exact yu hr (gR _ hx),fun x hx=>by rw [kj]; exact yu hr (jr _ hx)⟩;exact zjf (ok.named hk hr).1 (fun n hn=>ih n hn (Dc ok hn)) nm.1 nm.2
namespace Gr
variable {b:Bk} {ρ σ:Str->Lad} {C:Int} {ns:List Str}
theorem j5 {x:Nat} (hk:∀ n ∈ ns,(ρ n).Ok (2 ^ x)):∀ {g:Gr},Named ns g->g.Ok (2 ^ 119)->(∀ l ∈ rkT b ρ g,l.Ok (2 ^ (x+121*g.parts)))/\∀ y,((rkT b ρ g).map fun l=>Lad.S l y).sum < 2 ^ (x+121*g.parts)
 | .nil,_,_=>And.intro (fun l hl=>nomatch hl) (fun y=>by
  show (0:Int) < _;have:=hO (x+121*Gr.nil.parts); omega)
 | .cons k g m r,h,ho=>by
  obtain ⟨_,hg,Ci,rB,hr,_⟩:=ho;have mw:k ∈ ns:=h ((k,g),m) (bw ..);obtain ⟨g1,g2⟩:=j5 hk (g:=g) (fun x hx=>h x (bI _ (gR _ hx))) hg;obtain ⟨r1,r2⟩:=j5 hk (g:=r) (fun x hx=>h x (bI _ (jr _ hx))) hr;have e1:(Gr.cons k g m r).parts=1+g.parts+r.parts:=rfl;have p0:=hO (x+121*g.parts);have px:=hO x;have io:(Lad.aZ (rkT b ρ g)).Ok (2 ^ (x+121*g.parts)):=Lad.ee g1 (by omega) (Kw _) g2;have lo:=Lad.iI (w:=b.wide k) (hk k mw) io px p0;have m1:=jm (show x<=x+121*g.parts by omega);have L3:(dJ (b.wide k) (ρ k) (Lad.aZ (rkT b ρ g))).Ok (2 ^ (x+121*g.parts+1)):=lo.mono (by rw [yd]; omega);have to:=Lad.gM L3 (show 0<=m by omega);have q0:=hO (x+121*g.parts+1);have hb:2 ^ (x+121*g.parts+1)*m+2 ^ (x+121*g.parts+1)<=2 ^ (x+121*g.parts+120):=by
   have:(2:Int) ^ (x+121*g.parts+120)=2 ^ (x+121*g.parts+1)*2 ^ 119:=by rw [<- Int.pow_add]
   rw [this];have h2:(2:Int) ^ (x+121*g.parts+1)*(m+1)<=2 ^ (x+121*g.parts+1)*2 ^ 119:=Int.mul_le_mul_of_nonneg_left (by omega) (by omega);rw [Int.mul_add,Int.mul_one] at h2;exact h2
  have to2:=to.mono hb;have w1:=jm (show x+121*g.parts+120<=x+121*(1+g.parts+r.parts)-1 by omega);have w2:=jm (show x+121*r.parts<=x+121*(1+g.parts+r.parts)-1 by omega);have w3:=yd (x+121*(1+g.parts+r.parts)-1);rw [show x+121*(1+g.parts+r.parts)-1+1=x+121*(1+g.parts+r.parts) by omega] at w3;have w0:=hO (x+121*(1+g.parts+r.parts)-1);rw [e1];refine ⟨fun l hl=>?_,fun y=>?_⟩
  ·rcases Qv hl with rfl | hl
   ·exact to2.mono (by omega)
   ·exact (r1 l hl).mono (by omega)
  ·show Lad.S (Lad.bM (dJ (b.wide k) (ρ k) (Lad.aZ (rkT b ρ g))) m) y+((rkT b ρ r).map fun l=>Lad.S l y).sum < _;have s2:=r2 y;have s3:Lad.S (Lad.bM (dJ (b.wide k) (ρ k) (Lad.aZ (rkT b ρ g))) m) y < 2 ^ (x+121*g.parts+120)\/Lad.S (Lad.bM (dJ (b.wide k) (ρ k) (Lad.aZ (rkT b ρ g))) m) y<=0:=by
    rcases Lad.cF to2 y with ⟨h1,_⟩ | ⟨mm,_,h2,_,h4⟩
    ·right; omega
    ·left; omega
   have w4:=hO (x+121*g.parts+120);rcases s3 with s3 | s3 <;> omega
end Gr
section
variable {K:Qn} {H:Hp} {Q:VK} {σ:L2.St} {i:Nat} {n:Str}
theorem Tc (hσ:σ[i]?=some (some (.str n))) (q:∀ (x:V) (H':Hp),SB [] H H'->GA K H' x (.cons n .nil m .nil)->Q x H') :
  tTup (tCons (tTup (tCons (tTup (tCons (tVar i) (tCons (tTup tNil) tNil))) (tCons (tC (.int m)) tNil))) tNil) σ H Q:=by
 refine ⟨_,hσ,?_⟩;refine ⟨Z0,fun e ne=>?_⟩;have u1:=Jb ne (.tup []);have h1:=dZ u1;generalize upd H e _=H1 at u1 h1;refine ⟨dU,fun t nt=>?_⟩;have u2:=Jb nt (.tup [.str n,.ref e]);have h2:=dZ u2;generalize upd H1 t _=H2 at u2 h2;refine ⟨dU,fun s ns=>?_⟩;have u3:=Jb ns (.tup [.ref t,.int m]);have h3:=dZ u3;generalize upd H2 s _=H3 at u3 h3;refine ⟨Z1,fun r nr=>?_⟩;have u4:=Jb nr (.tup [.ref s]);refine q _ _ (((u1.trans u2).trans u3).trans u4) ?_;have hp:Dp K H3 (.ref s) (Gr.aC ((n,.nil),m)):=by
  refine Sz (enc:=Gr.aO) (g:=(n,.nil)) (m:=m) (SqT.of h3) ?_;exact Dp.tup ((u3.aH (SqT.of h2))) (.cons (.str _) (.cons (C7 ((u2.trans u3).aH (SqT.of h1))) .nil))
 have:=QE (K:=K) (H:=upd H3 r (.tup [.ref s])) (a:=r) (xs:=[.ref s]) (bs:=[((n,.nil),m)]) (SqT.of Qt) (.cons (fc u4 _ _ (Gr.aj _) hp) .nil);exact this
end
namespace Gr
variable {b:Bk} {ρ σ:Str->Lad} {C:Int} {ns:List Str}
theorem iF {x:Nat} (hk:∀ n ∈ ns,(ρ n).Ok (2 ^ x)):∀ {g:Gr},Named ns g->g.Ok (2 ^ 30)->(∀ l ∈ rkT b ρ g,l.Ok (2 ^ (x+32*g.parts)))/\∀ y,((rkT b ρ g).map fun l=>Lad.S l y).sum < 2 ^ (x+32*g.parts)
 | .nil,_,_=>And.intro (fun l hl=>nomatch hl) (fun y=>by
  show (0:Int) < _;have:=hO (x+32*Gr.nil.parts); omega)
 | .cons k g m r,h,ho=>by
  obtain ⟨_,hg,Ci,rB,hr,_⟩:=ho;have mw:k ∈ ns:=h ((k,g),m) (bw ..);obtain ⟨g1,g2⟩:=iF hk (g:=g) (fun x hx=>h x (bI _ (gR _ hx))) hg;obtain ⟨r1,r2⟩:=iF hk (g:=r) (fun x hx=>h x (bI _ (jr _ hx))) hr;have e1:(Gr.cons k g m r).parts=1+g.parts+r.parts:=rfl;have p0:=hO (x+32*g.parts);have px:=hO x;have io:(Lad.aZ (rkT b ρ g)).Ok (2 ^ (x+32*g.parts)):=Lad.ee g1 (by omega) (Kw _) g2;have lo:=Lad.iI (w:=b.wide k) (hk k mw) io px p0;have m1:=jm (show x<=x+32*g.parts by omega);have L3:(dJ (b.wide k) (ρ k) (Lad.aZ (rkT b ρ g))).Ok (2 ^ (x+32*g.parts+1)):=lo.mono (by rw [yd]; omega);have to:=Lad.gM L3 (show 0<=m by omega);have q0:=hO (x+32*g.parts+1);have hb:2 ^ (x+32*g.parts+1)*m+2 ^ (x+32*g.parts+1)<=2 ^ (x+32*g.parts+31):=by
   have:(2:Int) ^ (x+32*g.parts+31)=2 ^ (x+32*g.parts+1)*2 ^ 30:=by rw [<- Int.pow_add]
   rw [this];have h2:(2:Int) ^ (x+32*g.parts+1)*(m+1)<=2 ^ (x+32*g.parts+1)*2 ^ 30:=Int.mul_le_mul_of_nonneg_left (by omega) (by omega);rw [Int.mul_add,Int.mul_one] at h2;exact h2
  have to2:=to.mono hb;have w1:=jm (show x+32*g.parts+31<=x+32*(1+g.parts+r.parts)-1 by omega);have w2:=jm (show x+32*r.parts<=x+32*(1+g.parts+r.parts)-1 by omega);have w3:=yd (x+32*(1+g.parts+r.parts)-1);rw [show x+32*(1+g.parts+r.parts)-1+1=x+32*(1+g.parts+r.parts) by omega] at w3;have w0:=hO (x+32*(1+g.parts+r.parts)-1);rw [e1];refine ⟨fun l hl=>?_,fun y=>?_⟩
  ·rcases Qv hl with rfl | hl
   ·exact to2.mono (by omega)
   ·exact (r1 l hl).mono (by omega)
  ·show Lad.S (Lad.bM (dJ (b.wide k) (ρ k) (Lad.aZ (rkT b ρ g))) m) y+((rkT b ρ r).map fun l=>Lad.S l y).sum < _;have s2:=r2 y;have s3:Lad.S (Lad.bM (dJ (b.wide k) (ρ k) (Lad.aZ (rkT b ρ g))) m) y < 2 ^ (x+32*g.parts+31)\/Lad.S (Lad.bM (dJ (b.wide k) (ρ k) (Lad.aZ (rkT b ρ g))) m) y<=0:=by
    rcases Lad.cF to2 y with ⟨h1,_⟩ | ⟨mm,_,h2,_,h4⟩
    ·right; omega
    ·left; omega
   have w4:=hO (x+32*g.parts+31);rcases s3 with s3 | s3 <;> omega
theorem mI {P D x:Nat} (hk:∀ n ∈ ns,n ∈ b.names/\ρ n ≠ .nil/\(ρ n).parts<=P/\(ρ n).deep<=D/\(ρ n).Ok (2 ^ x)) (hP:1<=P):∀ {g:Gr},Named ns g->g.Ok (2 ^ 30)->P*g.parts<=390->D+g.deep<=24->x+32*g.parts<=2000->rP b ρ ns g
 | .nil,_,_,_,_,_=>trivial
 | .cons k g m r,h,ho,hp,hd,hx=>by
  have DW:∀ n ∈ ns,(ρ n).parts<=P/\(ρ n).deep<=D:=fun n hn=>⟨(hk n hn).2.2.1,(hk n hn).2.2.2.1⟩;have DT:∀ n ∈ ns,(ρ n).Ok (2 ^ x):=fun n hn=>(hk n hn).2.2.2.2;have nm:2 ^ 30<=(2:Int) ^ 2000:=jm (by decide);obtain ⟨mw,wG⟩:k ∈ ns/\(Named ns g/\Named ns r):=⟨h ((k,g),m) (bw ..),fun x hx=>h x (bI _ (gR _ hx)),fun x hx=>h x (bI _ (jr _ hx))⟩;obtain ⟨LS,hg,Ci,rB,hr,tw⟩:=ho;have ho:(Gr.cons k g m r).Ok (2 ^ 30):=⟨LS,hg,Ci,rB,hr,tw⟩;have e1:(Gr.cons k g m r).parts=1+g.parts+r.parts:=rfl;have e2:(Gr.cons k g m r).deep=max (1+g.deep) r.deep:=rfl;rw [e1,Nat.mul_add,Nat.mul_add,Nat.mul_one] at hp;rw [e1] at hx;obtain ⟨s1,s2⟩:=d4 DW h;obtain ⟨g1,g2⟩:=d4 DW wG.1;obtain ⟨n1,n2⟩:=iF DT wG.1 hg;have p0:=hO (x+32*g.parts);have px:=hO x;have io:(Lad.aZ (rkT b ρ g)).Ok (2 ^ (x+32*g.parts)):=Lad.ee n1 (by omega) (Kw _) n2;have lo:=(Lad.iI (w:=b.wide k) (DT k mw) io px p0);have m1:=jm (show x<=x+32*g.parts by omega);have m2:=jm (show x+32*g.parts+1<=2000 by omega);have m3:=yd (x+32*g.parts);obtain ⟨kb,BV,kp,kd,kx⟩:=hk k mw;have num:∀ {l:Lad},l.Ok (2 ^ 2000)->∀ p ∈ l.ps,0<=p.2/\p.2 < 2 ^ 2000:=fun hl p hp=>by
   have:=(Lad.aV.mp hl).1 p hp;exact ⟨by omega,this.2.2⟩
  have ip:(Lad.aZ (rkT b ρ g)).parts<=P*g.parts:=Yb (Lad.cV _) g1;have B4:(Lad.aZ (rkT b ρ g)).deep<=D+g.deep:=Lad.dP g2;have lp:=Lad.gG (b.wide k) (ρ k) (Lad.aZ (rkT b ρ g));have ld:=Lad.kc (w:=b.wide k) (o:=ρ k) (l:=Lad.aZ (rkT b ρ g)) (n:=D+g.deep) (by omega) B4;refine ⟨⟨mw,kb,BV,⟨by omega,by omega,num (kx.mono (by omega))⟩,⟨by show (Lad.aZ (rkT b ρ g)).deep<=25; omega,by show (Lad.aZ (rkT b ρ g)).parts<=900; omega,num (io.mono (by omega))⟩,⟨by show (dJ (b.wide k) (ρ k) (Lad.aZ (rkT b ρ g))).deep<=25; omega,by show (dJ (b.wide k) (ρ k) (Lad.aZ (rkT b ρ g))).parts<=900; omega,num (lo.mono (by omega))⟩,by omega,by omega,?_⟩,mI hk hP wG.1 hg (by omega) (by omega) (by omega),mI hk hP wG.2 hr (by omega) (by omega) (by omega)⟩;have key:∀ ls:List Lad,(ls.flatMap Lad.ps).length<=(ls.map Lad.parts).sum:=by
   intro ls
   induction ls with
   | nil=>exact Yc _
   | cons l r ih =>
    rw [List.flatMap_cons,Yf,Ky,List.sum_cons,Lad.a7];have:=l.aM;omega
  have:=key (rkT b ρ (.cons k g m r));rw [e1,Nat.mul_add,Nat.mul_add,Nat.mul_one] at s1;exact Yb (Yb this s1) (by omega)
end Gr
theorem S1 {P D x m:Nat} (hk:∀ n ∈ ns,(ρ n).parts<=P/\(ρ n).deep<=D) (hx:∀ n ∈ ns,(ρ n).Ok (2 ^ x)) (h1:Gr.Named ns r.1) (h2:Gr.Named ns r.2) (o1:r.1.Ok (2 ^ 30)) (o2:r.2.Ok (2 ^ 30)) (hs:r.1.parts+r.2.parts<=m) (hD:2<=D) :
  (fh b ρ r).parts<=m*P+2/\(fh b ρ r).deep<=D+m/\(fh b ρ r).Ok (2 ^ (x+32*m+2))/\(Gr.rk b ρ r.1).deep<=D+m/\(Gr.rk b ρ r.2).deep<=D+m/\(Gr.rk b ρ r.1).parts<=m*P/\(Gr.rk b ρ r.2).parts<=m*P:=by
 obtain ⟨a1,a2⟩:=Gr.d4 (b:=b) hk h1;obtain ⟨b1,b2⟩:=Gr.d4 (b:=b) hk h2;obtain ⟨c1,c2⟩:=Gr.iF (b:=b) hx h1 o1;obtain ⟨d1,d2⟩:=Gr.iF (b:=b) hx h2 o2;have w1:=oL r.1;have w2:=oL r.2;have p1:(Gr.rk b ρ r.1).parts<=P*r.1.parts:=Yb (Lad.cV _) a1;have p2:(Gr.rk b ρ r.2).parts<=P*r.2.parts:=Yb (Lad.cV _) b1;have q1:(Gr.rk b ρ r.1).deep<=D+r.1.deep:=Lad.dP a2;have q2:(Gr.rk b ρ r.2).deep<=D+r.2.deep:=Lad.dP b2;have e1:=hO (x+32*r.1.parts);have e2:=hO (x+32*r.2.parts);have k1:(Gr.rk b ρ r.1).Ok (2 ^ (x+32*r.1.parts)):=Lad.ee c1 (by omega) (Kw _) c2;have k2:(Gr.rk b ρ r.2).Ok (2 ^ (x+32*r.2.parts)):=Lad.ee d1 (by omega) (Kw _) d2;have ko:=Lad.rM k1 k2 e1 e2;have hm:P*r.1.parts+P*r.2.parts<=m*P:=by
  rw [<- Nat.mul_add,Nat.mul_comm m P];exact Nat.mul_le_mul_left _ hs
 have ap:=Lad.xY (Gr.rk b ρ r.1) (Gr.rk b ρ r.2);have ad:=Lad.kB (n:=D+m) (l:=Gr.rk b ρ r.1) (k:=Gr.rk b ρ r.2) (by omega) (by omega) (by omega);have m1:=jm (show x+32*r.1.parts<=x+32*m by omega);have m2:=jm (show x+32*r.2.parts<=x+32*m by omega);have m4:(2:Int) ^ (x+32*m+2)=2*2 ^ (x+32*m+1):=yd (x+32*m+1);have m5:=hO (x+32*m);exact ⟨by unfold fh; omega,ad,ko.mono (by omega),by omega,by omega,by omega,by omega⟩
structure BndY (m c:Nat) (l:Lad):Prop where
 ne:l ≠ .nil
 parts:l.parts<=Pm m c
 deep:l.deep<=2+m*c
 ok:l.Ok (2 ^ (2+(32*m+2)*c))
theorem SX {b:Bk} (ok:b.Ok) {m:Nat} (hm:∀ k ∈ b,EndK b k.n->∀ r ∈ k.rs,r.1.Ok (2 ^ 30)/\r.2.Ok (2 ^ 30)/\r.1.parts+r.2.parts<=m):∀ (c:Nat) (k:Kd),k ∈ b->EndK b k.n->CS b k.n<=c->BndY m c (cg b k.n)
 | c,k,hk,he,hc=>by
  have kj:=C9 ok hk;have nm:∀ r ∈ k.rs,Gr.Named (adj b k.n) r.1/\Gr.Named (adj b k.n) r.2:=fun r hr=>⟨fun x hx=>by rw [kj]; exact yu hr (gR _ hx),fun x hx=>by rw [kj]; exact yu hr (jr _ hx)⟩;have eq:=QG ok hk he;have ne:cg b k.n ≠ .nil:=fun z=>by
   have:=Lad.ka (k.rs.map (fh b (cg b))) Lad.b9 Lad.b9 (bw ..);rw [<- eq,z] at this;rw [Lad.lt_nil_cons] at this; cases this
  have p2:=YV m c;have x0:(2:Int)<=2 ^ (2+(32*m+2)*c):=by
   have:=jm (show 1<=2+(32*m+2)*c by omega);exact this
  have Ds:(∀ r ∈ k.rs,(fh b (cg b) r).parts<=Pm m c/\(fh b (cg b) r).deep<=2+m*c/\(fh b (cg b) r).Ok (2 ^ (2+(32*m+2)*c)))->BndY m c (cg b k.n):=fun h=>by
   refine ⟨ne,?_,?_,?_⟩ <;> rw [eq] <;> rcases Qv (Lad.gF (k.rs.map (fh b (cg b))) Lad.b9) with e | e
   ·rw [e]; show 1<=_; omega
   ·obtain ⟨r,hr,e⟩:=Qx e;rw [<- e]; exact (h r hr).1
   ·rw [e]; show 1<=_; omega
   ·obtain ⟨r,hr,e⟩:=Qx e;rw [<- e]; exact (h r hr).2.1
   ·rw [e]; exact Lad.fE.mono x0
   ·obtain ⟨r,hr,e⟩:=Qx e;rw [<- e]; exact (h r hr).2.2
  cases c with
  | zero =>
   have h0:adj b k.n=[]:=by
    cases ha:adj b k.n with
    | nil=>rfl
    | cons y ys =>
     have:=So ok he (k:=y) (by rw [ha]; exact bw ..);omega
   refine Ds fun r hr=>?_;obtain ⟨n1,n2⟩:=nm r hr;rw [h0] at n1 n2;have nil_of:∀ g:Gr,Gr.Named [] g->g=.nil:=fun g h=>by
    cases g with
    | nil=>rfl
    | cons k g m r=>exact absurd (h ((k,g),m) (bw ..)) (by simp)
   have e:r=(.nil,.nil):=Prod.ext (nil_of _ n1) (nil_of _ n2);rw [e,KI];exact ⟨by show 1<=2; decide,by show 1<=_; omega,Lad.fE.mono x0⟩
  | succ c =>
   have Jj:∀ n ∈ adj b k.n,BndY m c (cg b n):=fun n hn=>by
    have cZ:=So ok he hn;obtain ⟨kd,eg⟩:=Bk.d8 (Dc ok hn);obtain ⟨Cj,rfl⟩:=Bk.get_some eg;exact SX ok hm c kd Cj (he.next hn) (by omega)
   refine Ds fun r hr=>?_;obtain ⟨n1,n2⟩:=nm r hr;obtain ⟨o1,o2,hs⟩:=hm k hk he r hr;obtain ⟨c1,c2,c3,_⟩:=S1 (b:=b) (ρ:=cg b) (P:=Pm m c) (D:=2+m*c) (x:=2+(32*m+2)*c) (fun n hn=>⟨(Jj n hn).parts,(Jj n hn).deep⟩) (fun n hn=>(Jj n hn).ok) n1 n2 o1 o2 hs (by omega);refine ⟨c1,by rw [Nat.mul_succ]; omega,?_⟩;have:2+(32*m+2)*(c+1)=2+(32*m+2)*c+32*m+2:=by rw [Nat.mul_succ]; omega
   rw [this]; exact c3
theorem zbe (ok:b.Ok) {m:Nat} (hm:∀ k ∈ b,EndK b k.n->∀ r ∈ k.rs,r.1.Ok (2 ^ 30)/\r.2.Ok (2 ^ 30)/\r.1.parts+r.2.parts<=m) (hP:m*Pm m (b.length-2)<=390) (hD:2+m*(b.length-2)+m<=24) (hX:2+(32*m+2)*(b.length-2)+32*m<=2000):OwnR b (cg b)/\∀ n ∈ b.names,EndK b n->BndY m (b.length-1) (cg b n):=by
 have hb:∀ n ∈ b.names,EndK b n->BndY m (b.length-1) (cg b n):=fun n hn he=>by
  obtain ⟨kd,eg⟩:=Bk.d8 hn;obtain ⟨Cj,rfl⟩:=Bk.get_some eg;have:=ZZ he hn;exact SX ok hm _ kd Cj he (by omega)
 have Jj:∀ k ∈ b,EndK b k.n->∀ n ∈ adj b k.n,BndY m (b.length-2) (cg b n):=fun k hk he n hn=>by
  obtain ⟨kd,eg⟩:=Bk.d8 (Dc ok hn);obtain ⟨Cj,rfl⟩:=Bk.get_some eg;have h1:=So ok he hn;have h2:=ZZ he (Ku ⟨k,hk,rfl⟩);exact SX ok hm _ kd Cj (he.next hn) (by omega)
 have p2:=YV m (b.length-2);refine ⟨⟨fun k hk he=>QG ok hk he,fun k hk he ns A9 r hr=>?_,fun k hk he r hr=>?_⟩,hb⟩
 ·have kj:=C9 ok hk;have n1:Gr.Named (adj b k.n) r.1:=fun x hx=>by rw [kj]; exact yu hr (gR _ hx)
  have n2:Gr.Named (adj b k.n) r.2:=fun x hx=>by rw [kj]; exact yu hr (jr _ hx)
  obtain ⟨o1,o2,hs⟩:=hm k hk he r hr;have hc:=Jj k hk he;obtain ⟨_,_,_,d1,d2,q1,q2⟩:=S1 (b:=b) (ρ:=cg b) (P:=Pm m (b.length-2)) (D:=2+m*(b.length-2)) (x:=2+(32*m+2)*(b.length-2)) (fun n hn=>⟨(hc n hn).parts,(hc n hn).deep⟩) (fun n hn=>(hc n hn).ok) n1 n2 o1 o2 hs (by omega);have w1:=oL r.1;have w2:=oL r.2;have hP1:Pm m (b.length-2)*r.1.parts<=390:=Yb (Nat.mul_le_mul_left _ (show r.1.parts<=m by omega)) (by rw [Nat.mul_comm]; exact hP);have hP2:Pm m (b.length-2)*r.2.parts<=390:=Yb (Nat.mul_le_mul_left _ (show r.2.parts<=m by omega)) (by rw [Nat.mul_comm]; exact hP);have yj:∀ n ∈ adj b k.n,n ∈ b.names/\cg b n ≠ .nil/\(cg b n).parts<=Pm m (b.length-2)/\(cg b n).deep<=2+m*(b.length-2)/\(cg b n).Ok (2 ^ (2+(32*m+2)*(b.length-2))):=fun n hn=>⟨Dc ok hn,(hc n hn).ne,(hc n hn).parts,(hc n hn).deep,(hc n hn).ok⟩;exact ⟨(Gr.mI yj (by omega) n1 o1 hP1 (by omega) (by omega)).mono A9,(Gr.mI yj (by omega) n2 o2 hP2 (by omega) (by omega)).mono A9,by omega,by omega,by omega,by omega⟩
 ·have kj:=C9 ok hk;have n1:Gr.Named (adj b k.n) r.1:=fun x hx=>by rw [kj]; exact yu hr (gR _ hx)
  have n2:Gr.Named (adj b k.n) r.2:=fun x hx=>by rw [kj]; exact yu hr (jr _ hx)
  obtain ⟨o1,o2,hs⟩:=hm k hk he r hr;have hc:=Jj k hk he;obtain ⟨_,d0,_⟩:=S1 (b:=b) (ρ:=cg b) (P:=Pm m (b.length-2)) (D:=2+m*(b.length-2)) (x:=2+(32*m+2)*(b.length-2)) (fun n hn=>⟨(hc n hn).parts,(hc n hn).deep⟩) (fun n hn=>(hc n hn).ok) n1 n2 o1 o2 hs (by omega);omega
theorem S4 {α:Type} [DecidableEq α] {x:α}:∀ {l:List α},x ∈ l->∃ j:Nat,l[j]?=some x/\∀ (i:Nat),i < j->l[i]? ≠ some x
 | [],h=>nomatch h
 | a::l,h=>by
  by_cases e:a=x
  ·exact ⟨0,by rw [e]; rfl,fun i hi=>by omega⟩
  ·have hx:x ∈ l:=by
    rcases Qv h with z | z
    ·exact absurd z.symm e
    ·exact z
   obtain ⟨j,h1,h2⟩:=S4 hx;refine ⟨j+1,by simpa using h1,fun i hi=>?_⟩;cases i with
   | zero=>simpa using e
   | succ i=>simpa using h2 i (by omega)
def gE (c:Addr) (a l s:Int):List (Key × V):=[(Sum.inr "cells",V.ref c),(Sum.inr wQ,V.int a),(Sum.inr "left",V.int l),(Sum.inr "seed",V.int s)]
theorem Z7 (c:Addr) (a l s:Int):valV (gE c a l s) (Sum.inr "cells")=some (.ref c):=rfl
theorem Sh (c:Addr) (a l s:Int):valV (gE c a l s) (Sum.inr wQ)=some (.int a):=rfl
theorem QA (c:Addr) (a l s:Int):valV (gE c a l s) (Sum.inr "left")=some (.int l):=rfl
theorem ZL (c:Addr) (a l s:Int):valV (gE c a l s) (Sum.inr "seed")=some (.int s):=rfl
theorem zhb (c:Addr) (a l s x:Int):putK (gE c a l s) (Sum.inr wQ) (.int x)=gE c x l s:=rfl
def OS (H:Hp) (p:Addr):Prop:=∃ (c:Addr) (ns:List Int) (a l s:Int),H p=some (.dK (gE c a l s))/\H c=some (.lst (ns.map V.int))/\ns.length<=63/\0<=a/\a<=ns.length/\(0<=l/\l < 10 ^ 320)/\(0<=s/\s < 2 ^ 31)
def YD (K:Qn):Sp:=fun vs H Q _=>∃ (a:Addr) (ns:List Int),vs=[.ref a]/\SqL K H a (ns.map V.int)/\ns.length<=63/\∀ (p:Addr) (H':Hp),SB [] H H'->H p=none->OS H' p->Q (.ref p) H'
namespace Lad
def mrg:Lad->Lad->Lad
 | .nil,k=>k
 | .cons e m r,.nil=>.cons e m r
 | .cons e m r,.cons f n s=>if e=f then .cons e (m+n) (mrg r s) else if e.lt f=true then .cons f n (mrg (.cons e m r) s) else .cons e m (mrg r (.cons f n s))
termination_by l k=>l.len+k.len
decreasing_by all_goals (simp only [Lad.len]; omega)
theorem pM (l:Lad):mrg l .nil=l:=by cases l <;> simp [mrg]
theorem pN (l:Lad):mrg .nil l=l:=by rw [mrg]
theorem sW (e f:Lad) (m n:Int) (r s:Lad):mrg (.cons e m r) (.cons f n s)=if e=f then .cons e (m+n) (mrg r s) else if e.lt f=true then .cons f n (mrg (.cons e m r) s) else .cons e m (mrg r (.cons f n s)):=by rw [mrg]
theorem qM {l k:Lad}:∀ p ∈ (mrg l k).ps,(∃ q ∈ l.ps,q.1=p.1)\/∃ q ∈ k.ps,q.1=p.1:=by
 fun_induction mrg l k with
 | case1 k=>exact fun p hp=>.inr ⟨p,hp,Ja⟩
 | case2 e m r=>exact fun p hp=>.inl ⟨p,hp,Ja⟩
 | case3 m r e n s ih =>
  intro p hp;rcases Qv hp with h | h
  ·exact .inl ⟨(e,m),bw ..,by rw [h]⟩
  ·rcases ih p h with ⟨q,hq,z⟩ | ⟨q,hq,z⟩
   ·exact .inl ⟨q,bI _ hq,z⟩
   ·exact .inr ⟨q,bI _ hq,z⟩
 | case4 e m r f n s h1 h2 ih =>
  intro p hp;rcases Qv hp with h | h
  ·exact .inr ⟨(f,n),bw ..,by rw [h]⟩
  ·rcases ih p h with ⟨q,hq,z⟩ | ⟨q,hq,z⟩
   ·exact .inl ⟨q,hq,z⟩
   ·exact .inr ⟨q,bI _ hq,z⟩
 | case5 e m r f n s h1 h2 ih =>
  intro p hp;rcases Qv hp with h | h
  ·exact .inl ⟨(e,m),bw ..,by rw [h]⟩
  ·rcases ih p h with ⟨q,hq,z⟩ | ⟨q,hq,z⟩
   ·exact .inl ⟨q,bI _ hq,z⟩
   ·exact .inr ⟨q,hq,z⟩
theorem zj {l k:Lad}:l.Ok B->k.Ok C->1<=B->1<=C->(mrg l k).Ok (B+C):=by
 fun_induction mrg l k with
 | case1 k=>exact fun _ h b c=>h.mono (by omega)
 | case2 e m r=>exact fun h _ b c=>h.mono (by omega)
 | case3 m r e n s ih =>
  intro h g b c;obtain ⟨h1,h2,h3,h4,h5⟩:=h;obtain ⟨g1,g2,g3,g4,g5⟩:=g;refine ⟨h1.mono (by omega),by omega,by omega,ih h4 g4 b c,fun p hp=>?_⟩;rcases qM p hp with ⟨q,hq,z⟩ | ⟨q,hq,z⟩
  ·rw [<- z]; exact h5 q hq
  ·rw [<- z]; exact g5 q hq
 | case4 e m r f n s n1 n2 ih =>
  intro h g b c;obtain ⟨g1,g2,g3,g4,g5⟩:=g;refine ⟨g1.mono (by omega),by omega,by omega,ih h g4 b c,fun p hp=>?_⟩;rcases qM p hp with ⟨q,hq,z⟩ | ⟨q,hq,z⟩
  ·rw [<- z];rcases Qv hq with hq | hq
   ·rw [hq]; exact n2
   ·exact lt_trans _ _ _ (h.2.2.2.2 q hq) n2
  ·rw [<- z]; exact g5 q hq
 | case5 e m r f n s n1 n2 ih =>
  intro h g b c;obtain ⟨h1,h2,h3,h4,h5⟩:=h;have cZ:f.lt e=true:=d6 _ _ n1 (by simpa using n2);refine ⟨h1.mono (by omega),by omega,by omega,ih h4 g b c,fun p hp=>?_⟩;rcases qM p hp with ⟨q,hq,z⟩ | ⟨q,hq,z⟩
  ·rw [<- z]; exact h5 q hq
  ·rw [<- z];rcases Qv hq with hq | hq
   ·rw [hq]; exact cZ
   ·exact lt_trans _ _ _ (g.2.2.2.2 q hq) cZ
theorem sV {l k:Lad}:(mrg l k).parts<=l.parts+k.parts/\(mrg l k).deep<=max l.deep k.deep:=by
 fun_induction mrg l k with
 | case1 k=>exact ⟨by omega,by omega⟩
 | case2 e m r=>exact ⟨by omega,by omega⟩
 | case3 m r e n s ih =>
  obtain ⟨a,b⟩:=ih;refine ⟨?_,?_⟩
  ·show 1+e.parts+(mrg r s).parts<=(1+e.parts+r.parts)+(1+e.parts+s.parts); omega
  ·show max (1+e.deep) (mrg r s).deep<=max (max (1+e.deep) r.deep) (max (1+e.deep) s.deep); omega
 | case4 e m r f n s n1 n2 ih =>
  obtain ⟨a,b⟩:=ih;have a':(mrg (.cons e m r) s).parts<=(1+e.parts+r.parts)+s.parts:=a;have b':(mrg (.cons e m r) s).deep<=max (max (1+e.deep) r.deep) s.deep:=b;refine ⟨?_,?_⟩
  ·show 1+f.parts+(mrg (.cons e m r) s).parts<=(1+e.parts+r.parts)+(1+f.parts+s.parts); omega
  ·show max (1+f.deep) (mrg (.cons e m r) s).deep<=max (max (1+e.deep) r.deep) (max (1+f.deep) s.deep); omega
 | case5 e m r f n s n1 n2 ih =>
  obtain ⟨a,b⟩:=ih;have a':(mrg r (.cons f n s)).parts<=r.parts+(1+f.parts+s.parts):=a;have b':(mrg r (.cons f n s)).deep<=max r.deep (max (1+f.deep) s.deep):=b;refine ⟨?_,?_⟩
  ·show 1+e.parts+(mrg r (.cons f n s)).parts<=(1+e.parts+r.parts)+(1+f.parts+s.parts); omega
  ·show max (1+e.deep) (mrg r (.cons f n s)).deep<=max (max (1+e.deep) r.deep) (max (1+f.deep) s.deep); omega
end Lad
def zk9:List V->Hp->VK->Prop:=fun xs H Q=>∃ i j k,xs=[.int i,.int j,.int k]/\∀ m,Q (.int m) H
theorem zc1 {X:Cx} (hc:X.calm=true):CallR X (.builtin "max") zk9:=by
 intro pins s σ H xs us Q I r h;obtain ⟨i,j,k,rfl,q⟩:=h;cases r with
 | cons r1 r =>
 cases r with
 | cons r2 r =>
 cases r with
 | cons r3 r =>
 cases r;obtain ⟨t1,rfl⟩:=r1;obtain ⟨t2,rfl⟩:=r2;obtain ⟨t3,rfl⟩:=r3;refine max_three_ints (I.ok.hd hc) fun h' tk kk=>?_;by_cases h1:j > i
 ·by_cases h2:k > j
  ·simp only [h1,h2,if_true];exact ⟨.int k,H,I.kept kk,⟨_,Ja⟩,q _⟩
  ·simp only [h1,h2,if_true,if_false];exact ⟨.int j,H,I.kept kk,⟨_,Ja⟩,q _⟩
 ·by_cases h2:k > i
  ·simp only [h1,h2,if_true,if_false];exact ⟨.int k,H,I.kept kk,⟨_,Ja⟩,q _⟩
  ·simp only [h1,h2,if_false];exact ⟨.int i,H,I.kept kk,⟨_,Ja⟩,q _⟩
def Lad.iu:Lad->Nat
 | .nil=>0
 | .cons e m r=>max (1+r.len) (max e.iu r.iu)
theorem Lad.qr:∀ (l:Lad) (p:Lad × Int),p ∈ l.ps->p.1.iu<=l.iu
 | .nil,p,h=>nomatch h
 | .cons e m r,p,h=>by
  show p.1.iu<=max (1+r.len) (max e.iu r.iu);rcases Qv h with h | h
  ·rw [h]; show e.iu<=_; omega
  ·have:=Lad.qr r p h; omega
theorem Lad.Bp:∀ l:Lad,l.ps.length<=l.iu
 | .nil=>Yc _
 | .cons e m r=>by
  rw [Lad.a7];show 1+r.len<=max (1+r.len) (max e.iu r.iu);omega
theorem Lad.yx {n:Nat}:∀ {ps:List (Lad × Int)},ps.length<=n->(∀ p ∈ ps,p.1.iu<=n)->(Lad.ofPs ps).iu<=n
 | [],_,_=>Nat.zero_le _
 | (e,m)::r,h,g=>by
  have h':r.length+1<=n:=h;have ih:=Lad.yx (ps:=r) (by omega) fun p hp=>g p (bI _ hp);have h1:=g (e,m) (bw ..);have h2:(Lad.ofPs r).len=r.length:=by rw [<- Lad.a7,Lad.aK]
  show max (1+(Lad.ofPs r).len) (max e.iu (Lad.ofPs r).iu)<=n;have h1':e.iu<=n:=h1;omega
theorem Lad.kU:∀ l:Lad,l.iu<=l.parts
 | .nil=>Yc _
 | .cons e m r=>by
  have h1:=Lad.kU e;have h2:=Lad.kU r;have h3:=r.aM;have h4:=Lad.a7 r;show max (1+r.len) (max e.iu r.iu)<=1+e.parts+r.parts;omega
theorem Lad.i9 {n:Nat}:∀ {ps:List (Lad × Int)},(∀ p ∈ ps,p.1.deep < n)->(Lad.ofPs ps).deep<=n
 | [],_=>Nat.zero_le _
 | (e,m)::r,g=>by
  have ih:=Lad.i9 (ps:=r) fun p hp=>g p (bI _ hp);have h1:e.deep < n:=g (e,m) (bw ..);show max (1+e.deep) (Lad.ofPs r).deep<=n;omega
theorem Lad.nG:∀ (ps:List (Lad × Int)) (p:Lad × Int),(Lad.ofPs (ps++[p])).parts=(Lad.ofPs ps).parts+(1+p.1.parts)
 | [],(e,m)=>by show 1+e.parts+0=0+(1+e.parts); omega
 | (f,n)::r,p=>by
  have ih:=Lad.nG r p;show 1+f.parts+(Lad.ofPs (r++[p])).parts=1+f.parts+(Lad.ofPs r).parts+(1+p.1.parts);omega
theorem Lad.p4:∀ (ps:List (Lad × Int)) (p:Lad × Int),(Lad.ofPs (ps++[p])).deep=max (Lad.ofPs ps).deep (1+p.1.deep)
 | [],(e,m)=>by show max (1+e.deep) 0=max 0 (1+e.deep); omega
 | (f,n)::r,p=>by
  have ih:=Lad.p4 r p;show max (1+f.deep) (Lad.ofPs (r++[p])).deep=max (max (1+f.deep) (Lad.ofPs r).deep) (1+p.1.deep);omega
theorem Sm {σ:L2.St} {H:Hp} {Q:L2.St->Hp->Prop} (h:Q (σ.set i (some x)) H):gName i x σ H Q:=h
namespace Lad
variable {a b c d l k w g r e:Lad} {m n:Int} {B:Int} {qs:List (Lad × Int)} {p:Lad × Int}
def low (l:Lad):Lad:=match l.ps.getLast? with
 | none=>.nil
 | some p=>if p.2=1 then ofPs l.ps.dropLast else ofPs (l.ps.dropLast++[(p.1,p.2-1)])
def lst (l:Lad):Lad:=match l.ps.getLast? with
 | none=>.nil
 | some p=>p.1
theorem snoc_of (h:l ≠ .nil):∃ qs p,l.ps=qs++[p]:=by
 rcases List.eq_nil_or_concat l.ps with e | ⟨qs,p,e⟩
 ·exact absurd (by rw [<- aE l,e]; rfl) h
 ·exact ⟨qs,p,by rw [e,List.concat_eq_append]⟩
theorem nP (e:l.ps=qs++[p]):low l=if p.2=1 then ofPs qs else ofPs (qs++[(p.1,p.2-1)]):=by
 unfold low;rw [e];simp
theorem jF (e:l.ps=qs++[p]):lst l=p.1:=by
 unfold lst;rw [e];simp
theorem vj (h:l.Ok B):(low l).Ok B:=by
 by_cases hl:l=.nil
 ·rw [hl]; exact trivial
 obtain ⟨qs,p,e⟩:=snoc_of hl;have h1:=aV.mp h;rw [e] at h1;obtain ⟨h2,h3⟩:=h1;rw [nP e];have hp:=h2 p (by simp);rw [List.pairwise_append] at h3
 split
 ·rw [eF];exact ⟨fun q hq=>h2 q (gR _ hq),h3.1⟩
 ·rw [eF];refine ⟨fun q hq=>?_,?_⟩
  ·rcases Qw hq with hq | hq
   ·exact h2 q (gR _ hq)
   ·rw [Qy hq];exact ⟨hp.1,by show 1<=p.2-1; omega,by show p.2-1 < B; omega⟩
  ·rw [List.pairwise_append];refine ⟨h3.1,List.pairwise_singleton ..,fun x hx y hy=>?_⟩;rw [Qy hy];exact h3.2.2 x hx p (by simp)
theorem zv (h:l ≠ .nil) (x:Lad):S (low l) x=S l x-if lst l=x then 1 else 0:=by
 obtain ⟨qs,p,e⟩:=snoc_of h;rw [nP e,jF e];show aG (if p.2=1 then ofPs qs else ofPs (qs++[(p.1,p.2-1)])).ps x=aG l.ps x-_;rw [e,bB,show ([p]:List (Lad × Int))=[(p.1,p.2)] from rfl,ay,bh]
 split
 ·rw [aK]
  split <;> omega
 ·rw [aK,bB,ay,bh]
  split <;> omega
theorem lI (l:Lad):(low l).parts<=l.parts:=by
 by_cases hl:l=.nil
 ·rw [hl]; exact Yc _
 obtain ⟨qs,p,e⟩:=snoc_of hl;have h:l.parts=tot l.ps:=by rw [<- aP,aE]
 rw [nP e,h,e,aT]
 split
 ·rw [aP]; omega
 ·rw [aP,aT];exact Yc _
theorem nQ {n:Nat} (h:l.deep<=n):(low l).deep<=n:=by
 by_cases hl:l=.nil
 ·rw [hl]; exact Nat.zero_le _
 obtain ⟨qs,p,e⟩:=snoc_of hl;rw [nP e];have h1:∀ q ∈ qs++[p],q.1.deep < n:=fun q hq=>Nat.lt_of_lt_of_le (av l q (by rw [e]; exact hq)) h
 split
 ·exact eQ fun q hq=>h1 q (gR _ hq)
 ·refine eQ fun q hq=>?_;rcases Qw hq with hq | hq
  ·exact h1 q (gR _ hq)
  ·rw [Qy hq];exact h1 p (by simp)
theorem R.low (h:R l):R (low l):=by
 obtain ⟨B,hB,h⟩:=h;exact ⟨B,hB,vj h⟩
theorem R.lst (h:R l):R (lst l):=by
 by_cases hl:l=.nil
 ·rw [hl]; exact R.nil
 obtain ⟨B,hB,h⟩:=h;obtain ⟨qs,p,e⟩:=snoc_of hl;rw [jF e];exact ⟨B,hB,((aV.mp h).1 p (by rw [e]; simp)).1⟩
theorem R.pow (h:R e):R (.cons e 1 .nil):=by
 obtain ⟨B,hB,h⟩:=h;exact ⟨B+1,by omega,ze (h.mono (by omega)) (by omega)⟩
theorem mO (h:R l) {x:Lad} (hx:x.lt (lst l)=true):S l x=0:=by
 by_cases hl:l=.nil
 ·rw [hl]; exact bh x
 obtain ⟨B,hB,h⟩:=h;obtain ⟨qs,p,e⟩:=snoc_of hl;rw [jF e] at hx;refine vN fun q hq z=>?_;have h2:=(aV.mp h).2;rw [e,List.pairwise_append] at h2;rw [e] at hq;rcases Qw hq with hq | hq
 ·have:=h2.2.2 q hq p (by simp);rw [z] at this;rw [lt_asymm this] at hx;cases hx
 ·rw [Qy hq] at z;rw [z,lt_irrefl] at hx;cases hx
theorem Ew (h:R l) (hl:l ≠ .nil):1<=S l (lst l):=by
 obtain ⟨B,hB,h⟩:=h;obtain ⟨qs,p,e⟩:=snoc_of hl;have hp:p ∈ l.ps:=by rw [e]; simp
 rw [jF e,iR h hp];exact ((aV.mp h).1 p hp).2.1
theorem CQ (e x:Lad):wJ (.cons e 1 .nil) x=!x.lt e:=by
 show ([(e,(1:Int))].all fun p=>!x.lt p.1)=_;simp
theorem wB (h:R l) (hl:l ≠ .nil):cI (low l) (.cons (lst l) 1 .nil)=l:=by
 have rp:=h.lst.pow;refine (h.low.cI rp).ext h fun x=>?_;obtain ⟨B,hB,hp⟩:=rp;rw [kD hp,CQ,l8,zv hl];cases hx:x.lt (lst l) with
 | true =>
  have ne:¬ lst l=x:=fun z=>by rw [z,lt_irrefl] at hx; cases hx
  rw [mO h hx,if_neg ne];simp
 | false =>
  simp only [Bool.not_false,if_true]
  split <;> omega
def jf (a b:Lad):Lad:=if b.lt a=true then .nil else rst a b
theorem R.jf (ra:R a) (rb:R b):R (jf a b):=by
 unfold Lad.jf
 split
 ·exact R.nil
 ·rename_i h;obtain ⟨A,hA,ra⟩:=ra;obtain ⟨B,hB,rb⟩:=rb;exact ⟨B,hB,uY ra rb (by simpa using h)⟩
theorem uZ (ra:R a) (h:b.Ok B) (hB:1<=B):(jf a b).Ok B:=by
 unfold jf
 split
 ·exact trivial
 ·rename_i h2;obtain ⟨A,hA,ra⟩:=ra;exact uY ra h (by simpa using h2)
theorem iZ (a b:Lad):(jf a b).parts<=b.parts:=by
 unfold jf
 split
 ·exact Nat.zero_le _
 ·exact pJ a b
theorem j4 (a b:Lad):(jf a b).deep<=b.deep:=by
 unfold jf
 split
 ·exact Nat.zero_le _
 ·exact sM a b
theorem u9 (ra:R a) (rb:R b):Le b (cI a (jf a b)):=by
 unfold jf
 split
 ·rename_i h;rw [dC];exact Le.of_lt h
 ·rename_i h;obtain ⟨A,hA,ra⟩:=ra;obtain ⟨B,hB,rb⟩:=rb;rw [rK ra rb (by simpa using h)];exact Le.refl
theorem u6 (ra:R a) (rb:R b) (rc:R c) (hc:c ≠ .nil) (h:b.lt (cI a c)=true):(jf a b).lt c=true:=by
 have rr:=ra.jf rb;unfold jf at rr ⊢
 split
 ·exact nil_le c hc
 ·rename_i h2;rw [if_neg h2] at rr;have e:cI a (rst a b)=b:=by
   obtain ⟨A,hA,ra⟩:=ra;obtain ⟨B,hB,rb⟩:=rb;exact rK ra rb (by simpa using h2)
  cases hx:(rst a b).lt c with
  | true=>rfl
  | false =>
   exfalso
   rcases (show Le c (rst a b) from hx).cases with z | z
   ·rw [z,e,lt_irrefl] at h;cases h
   ·have:=jI ra rc rr z;rw [e] at this;rw [lt_asymm this] at h;cases h
theorem Le.OR (ra:R a) (rb:R b) (rc:R c) (h:Le b c):Le (cI a b) (cI a c):=by
 rcases h.cases with z | z
 ·rw [z]; exact Le.refl
 ·exact Le.of_lt (jI ra rb rc z)
theorem p6 (rd:R d) (re:R e) (h:d.lt (.cons e 1 .nil)=true):∀ p ∈ d.ps,p.1.lt e=true:=by
 intro p hp;obtain ⟨x,hx,hy⟩:=(rd.lt_iff re.pow).mp h;obtain ⟨D,hD,rd⟩:=rd;rw [l8] at hx;have h0:=bW rd x;have g9:=iR rd hp;have eY:=((aV.mp rd).1 p hp).2.1
 split at hx
 ·rename_i ex;subst ex;cases hc:p.1.lt e with
  | true=>rfl
  | false =>
   exfalso
   by_cases z:p.1=e
   ·rw [z] at g9; omega
   ·have:=hy p.1 (d6 _ _ z hc);rw [l8,if_neg (fun w=>z w.symm)] at this;omega
 ·omega
theorem xW (h:∀ p ∈ d.ps,p.1.lt e=true) {x:Lad} (hx:x.lt e=false):wJ d x=true:=by
 unfold wJ;rw [List.all_eq_true];intro p hp;cases hc:x.lt p.1 with
 | false=>rfl
 | true=>rw [lt_trans _ _ _ hc (h p hp)] at hx; cases hx
def gone (w l g:Lad):Lad:=cI (low l) (jf (low w) g)
theorem R.gone (mh:R w) (rl:R l) (rg:R g):R (gone w l g):=rl.low.cI (mh.low.jf rg)
theorem sR (mh:R w) (hw:w ≠ .nil) (rg:R g) (h:g.lt w=true):(jf (low w) g).lt (.cons (lst w) 1 .nil)=true :=
 u6 mh.low rg mh.lst.pow (by simp) (by rw [wB mh hw]; exact h)
theorem CK (mh:R w) (hw:w ≠ .nil) (rl:R l) (hl:l ≠ .nil) (rg:R g) (e:lst w=lst l) (h:g.lt w=true):(gone w l g).lt l=true:=by
 have h1:=jI rl.low (mh.low.jf rg) mh.lst.pow (sR mh hw rg h);rw [e,wB rl hl] at h1;exact h1
theorem CL (ro:R o) (rl:R l) (hl:l ≠ .nil) (rg:R g) (rr:R r) (hw:cu o l ≠ .nil) (e:lst (cu o l)=lst l) (h:g.lt (cu o l)=true) (hr:Le (gone (cu o l) l g) r):Le g (cu o r):=by
 have mh:=ro.cu rl;have rd:=mh.low.jf rg;have h1:=p6 rd mh.lst (sR mh hw rg h);refine Le.trans ?_ (Le.cu ro ro (mh.gone rl rg) rr Le.refl hr);have eq:cu o (gone (cu o l) l g)=cI (low (cu o l)) (jf (low (cu o l)) g):=by
  refine (ro.cu (mh.gone rl rg)).ext (mh.low.cI rd) fun x=>?_;have hd:=rd;obtain ⟨D,hD,hd⟩:=hd;show S (cu o (cI (low l) (jf (low (cu o l)) g))) x=_;rw [dz,kD hd,kD hd,zv hl,zv hw,dz,e];cases hx:x.lt (lst l) with
  | true =>
   have ne:¬ lst l=x:=fun z=>by rw [z,lt_irrefl] at hx; cases hx
   have z1:=mO rl hx;have z2:=mO mh (by rw [e]; exact hx);rw [dz] at z2;rw [if_neg ne];have z3:S o x=0:=by omega
   rw [z1,z3]
   split <;> omega
  | false =>
   have VY:=xW h1 (x:=x) (by rw [e]; exact hx);simp only [VY,if_true];omega
 rw [eq];exact u9 mh.low rg
theorem qN {m':Int} {r':Lad} (h:m < m'):Lad.lt (.cons e m r) (.cons e m' r')=true:=by
 cases hc:Lad.lt (.cons e m r) (.cons e m' r') with
 | true=>rfl
 | false =>
  rcases iG hc with ⟨_,h1,_⟩ | ⟨_,h1⟩ | ⟨h1,_⟩
  ·omega
  ·omega
  ·exact absurd rfl h1
def hde:Lad->Lad
 | .nil=>.nil
 | .cons e _ _=>e
def Bl:Lad->Int
 | .nil=>0
 | .cons _ m r=>if r=.nil then m-1 else m
theorem R.hde (h:R l):R (hde l):=by
 cases l with
 | nil=>exact R.nil
 | cons e m r=>exact h.exp
theorem Gy (rg:R g) (re:R e) (he:e ≠ .nil) (h:g.lt (.cons e 1 .nil)=true):(hde g).lt e=true:=by
 cases g with
 | nil=>exact nil_le e he
 | cons f m r=>exact p6 rg re h (f,m) (bw ..)
theorem Hr (hb:b ≠ .nil):cI a b ≠ .nil:=by
 cases b with
 | nil=>exact absurd rfl hb
 | cons e m r =>
  rw [cM];intro z;have:=congrArg Lad.ps z;rw [aK] at this;exact absurd this (by simp [Lad.ps])
theorem vI {h':Lad} (ro:R o) (rg:R g) (rh:R h') (h:Le (jf o g) h'):Le g (dJ false o h') :=
 (u9 ro rg).trans (Le.OR ro (ro.jf rg) rh h)
theorem uG {e0 r0 h':Lad} {m0:Int} (ro:R (.cons e0 m0 r0)) (rg:R g) (rh:R h') (h:Le (jf e0 (hde g)) h') (hn:Bl g<=n) (h0:0<=n):Le g (bM (dJ true (.cons e0 m0 r0) h') (1+n)):=by
 have re:=ro.exp;have rf:=re.cI rh;have h1:Le (hde g) (cI e0 h'):=(u9 re rg.hde).trans (Le.OR re (re.jf rg.hde) rh h);have m0p:1<=m0:=by
  obtain ⟨B,hB,hb⟩:=ro;exact hb.2.1
 have h2:Le (.cons (cI e0 h') 1 .nil) (dJ true (.cons e0 m0 r0) h'):=by
  cases h' with
  | nil =>
   rw [dC];show Le _ (.cons e0 m0 r0);by_cases z:1 < m0
   ·exact Le.of_lt (qN z)
   ·have:m0=1:=by omega
    subst this;cases r0 with
    | nil=>exact Le.refl
    | cons e1 m1 r1 =>
     show Lad.lt (.cons e0 1 (.cons e1 m1 r1)) (.cons e0 1 .nil)=false;cases hc:Lad.lt (.cons e0 1 (.cons e1 m1 r1)) (.cons e0 1 .nil) with
     | false=>rfl
     | true =>
      rw [dA] at hc;simp [cL] at hc
  | cons e1 m1 r1=>exact Le.refl
 refine Le.trans ?_ (Le.bM rf.pow (ro.dJ rh) (by omega) h2);rw [v7 (by omega)];cases g with
 | nil=>exact Le.nil
 | cons e m r =>
  rcases h1.cases with z | z
  ·have z':e=cI e0 h':=z;rw [<- z'];simp only [Bl] at hn
   split at hn
   ·rename_i er;subst er;by_cases q:m < 1+n
    ·exact Le.of_lt (qN q)
    ·have:m=1+n:=by omega
     rw [this]; exact Le.refl
   ·exact Le.of_lt (qN (by omega))
  ·exact Le.of_lt (top_lt z)
theorem oF (rl:R l) (rk:R k) (rg:R g) (h:g.lt (l.oO k)=true) (hn:0<=n) (hg:l.lt g=true->∃ e m r,k=.cons e m r/\1+S g e<=n):Le g (l.cu (k.bM n)):=by
 cases hc:l.lt g with
 | false=>exact (show Le g l from hc).trans (qP rl (rk.bM hn))
 | true =>
  obtain ⟨e,m,r,ek,h1⟩:=hg hc;refine l7 rl rk rg h ?_;rw [ek];exact h1
theorem CP (rl:R l) (rg:R g) (h:g.lt (l.oO k)=true) (h2:l.lt g=true):k ≠ .nil:=by
 rintro rfl
 have h3:=l7 rl R.nil rg h (n:=0) (by show (0:Int)<=0; omega);rw [sq] at h3;have e:cu l .nil=l:=by
  obtain ⟨B,hB,hl⟩:=rl;exact mN hl
 rw [e] at h3;have vF:l.lt g=false:=h3;rw [vF] at h2;cases h2
end Lad
namespace Lad
variable {a b c l k o h h':Lad} {m n:Int} {w:Bool}
theorem Le.Hs (h:Le a b) (g:Le b a):a=b:=by
 rcases h.cases with e | e
 ·exact e
 ·have g':a.lt b=false:=g;rw [g'] at e;cases e
theorem zu (r:R l) {x:Lad} (h:1<=S l x):Le (lst l) x:=by
 show x.lt (lst l)=false;cases hc:x.lt (lst l) with
 | false=>rfl
 | true=>have:=mO r hc; omega
theorem qS (ho:o ≠ .nil):dJ w o .nil=o:=by
 cases w with
 | true =>
  cases o with
  | nil=>exact absurd rfl ho
  | cons e m r=>rfl
 | false=>exact dC o
theorem mU (r:R l):bM l 1=l:=by
 refine (r.bM (by decide)).ext r fun x=>?_;rw [iQ]; omega
theorem wX {e0 r0:Lad} {m0:Int} (ro:R (.cons e0 m0 r0)) (rh:R h) (LC:R h') (hl:h'.lt h=true) (hn:0<=n):(bM (dJ true (.cons e0 m0 r0) h') (1+n)).lt (dJ true (.cons e0 m0 r0) h)=true:=by
 have vz:h ≠ .nil:=fun z=>by rw [z,cL] at hl; cases hl
 have e1:dJ true (.cons e0 m0 r0) h=.cons (cI e0 h) 1 .nil:=gD vz;rw [e1];cases h' with
 | nil =>
  rw [qS (by simp)];unfold bM;rw [if_neg (by omega)];exact top_lt (lQ ro.exp rh vz)
 | cons f q s =>
  rw [show dJ true (.cons e0 m0 r0) (.cons f q s)=.cons (cI e0 (.cons f q s)) 1 .nil from rfl,v7 (by omega)];exact top_lt (jI ro.exp LC rh hl)
end Lad
namespace Gr
variable {b:Bk} {ρ:Str->Lad} {ns:List Str} {C F n:Int} {g X fr:Gr} {p:Tr × Int}
structure Goods (b:Bk) (ρ:Str->Lad) (ns:List Str):Prop where
 rt:∀ n ∈ ns,Lad.R (ρ n)/\ρ n ≠ .nil
 nm:∀ n ∈ ns,∀ kd,b.get n=some kd->∀ r ∈ kd.rs,eW r/\Named ns r.1/\Named ns r.2
 own:∀ n ∈ ns,∀ kd,b.get n=some kd->ρ n=Lad.eU Lad.b9 (kd.rs.map (fh b ρ))
theorem Lh (h:g.Ok C) (hp:p ∈ g.ps) (X:Gr) (x:Lad):Lad.S (rk b ρ (mE (wo g p.1 1) X)) x=Lad.S (rk b ρ g) x-Lad.S (du b ρ p.1) x+Lad.S (rk b ρ X) x:=by
 rw [rN,rN,rN X];have e:=QB (fun t=>Lad.S (du b ρ t) x) _ (mE (wo g p.1 1) X).ps (g.ps++((p.1,-1)::X.ps)) (Yc _) (fun y=>?_)
 ·rw [e,Tj];show wsum _ g.ps+(Lad.S (du b ρ p.1) x*-1+wsum _ X.ps)=_;omega
 ·show S (mE (wo g p.1 1) X) y=_;rw [tV,Hv h (by decide),wV,pC];show _=S g y+((if p.1=y then -1 else 0)+S X y);have h1:=iR h hp;have h2:=(cj h hp).2.2.1;by_cases e:y=p.1
  ·rw [if_pos e,if_pos e.symm,e,h1]
   split <;> omega
  ·rw [if_neg e,if_neg (fun z=>e z.symm)];omega
theorem De (h:g.Ok C) (hp:p ∈ g.ps) (x:Lad):Lad.S (rk b ρ (wo g p.1 1)) x=Lad.S (rk b ρ g) x-Lad.S (du b ρ p.1) x:=by
 have h1:=Lh (b:=b) (ρ:=ρ) h hp .nil x;rw [Bt (g6 h (by decide))] at h1;rw [h1,lF];show _-_+Lad.aG [] x=_;rw [Lad.bh]; omega
theorem jq (G:Goods b ρ ns) {t:Tr} (hk:t.1 ∈ ns) (ho:t.2.Ok C) (hn:Named ns t.2):Lad.R (du b ρ t) :=
 (G.rt _ hk).1.dJ (oY ho (RN.named G.rt hn))
theorem my (G:Goods b ρ ns) (ho:g.Ok C) (hn:Named ns g):Lad.R (rk b ρ g):=oY ho (RN.named G.rt hn)
theorem mH (G:Goods b ρ ns) (h:g.Ok C) (hn:Named ns g) (hp:p ∈ g.ps):rk b ρ g=(rk b ρ (wo g p.1 1)).cu (du b ρ p.1):=by
 obtain ⟨h1,h2⟩:=aJ.mp hn p hp;refine (my G h hn).ext ((my G (g6 h (by decide)) (d5 hn _ _)).cu (jq G h1 (cj h hp).2.1 h2)) fun x=>?_;rw [Lad.dz,De h hp]; omega
theorem wj (G:Goods b ρ ns) (h:g.Ok C) (hn:Named ns g) (hX:X.Ok F) (hF:1<=F) (hXn:Named ns X) (hp:p ∈ g.ps):rk b ρ (mE (wo g p.1 1) X)=(rk b ρ (wo g p.1 1)).cu (rk b ρ X):=by
 have c2:=uc h hp;refine (my G (fL (g6 h (by decide)) hX (by omega) hF) (eM (d5 hn _ _) hXn)).ext ((my G (g6 h (by decide)) (d5 hn _ _)).cu (my G hX hXn)) fun x=>?_;rw [Lad.dz,Lh h hp,De h hp]
theorem E9 (G:Goods b ρ ns) {t:Tr} {m:Int} (h1:dN t.1) (h2:t.2.Ok C) (hk:t.1 ∈ ns) (hn:Named ns t.2) (hm:1<=m) (hC:m < C):rk b ρ (one t m)=Lad.bM (du b ρ t) m:=by
 have rt:=jq G hk h2 hn;have e:rk b ρ (one t m)=(Lad.bM (du b ρ t) m).cu (rk b ρ .nil):=BG (C:=C) (vf h1 h2 hm hC) (RN.named G.rt (lH hk hn m));rw [e,lF];obtain ⟨B,hB,hb⟩:=rt.bM (m:=m) (by omega);exact Lad.mN hb
def Jw (b:Bk) (ρ:Str->Lad) (n:Int) (fr:Gr) (r:Pl) (p:Tr × Int):Lad:=if r=[] then rk b ρ fr else Lad.bM (du b ρ (chg b n fr r p)) (1+b.far p.1.1 n)
theorem lR (hn:0<=n) (Be:fr.Ok F) (hF:1<=F) (RF:Named ns fr) (h:g.Ok C) (hg:Named ns g) (hp:p ∈ g.ps) {r:Pl} {k:Str} (hk:bareAt p.1.2 r=some k) :
  dN (chg b n fr r p).1/\(chg b n fr r p).2.Ok (C+F+n+2)/\(chg b n fr r p).1 ∈ ns/\Named ns (chg b n fr r p).2:=by
 obtain ⟨h1,h2⟩:=aJ.mp hg p hp;obtain ⟨o1,o2,_⟩:=cj h hp;exact ⟨o1,lg hn hF Be o2 hk,h1,fA RF hk h2⟩
theorem y5 (G:Goods b ρ ns) (hn:0<=n) (Be:fr.Ok F) (hF:1<=F) (RF:Named ns fr) (h:g.Ok C) (hg:Named ns g) {i:Nat} {r:Pl} {k:Str} (ep:g.ps[i]?=some p) (hk:bareAt g (i::r)=some k) :
  rk b ρ (stk b n fr (i::r) g).1=(rk b ρ (wo g p.1 1)).cu (Jw b ρ n fr r p):=by
 have hp:=Qu ep;unfold Jw;by_cases hr:r=[]
 ·subst hr;rw [if_pos rfl,iX ep];exact wj G h hg Be hF RF hp
 ·rw [if_neg hr,gB ep hr];obtain ⟨p',e',hb⟩:=cw hr hk;rw [ep] at e';cases e';obtain ⟨c1,c2,c3,c4⟩:=lR (b:=b) hn Be hF RF h hg hp hb;have hf:=b.oC p.1.1 hn;have c2p:=uc h hp;have ho:=vf (m:=1+b.far p.1.1 n) c1 c2 (by omega) (by omega);show rk b ρ (mE (wo g p.1 1) (one (chg b n fr r p) (1+b.far p.1.1 n)))=_;rw [wj G h hg ho (by omega) (lH c3 c4 _) hp,E9 G c1 c2 c3 c4 (by omega) (by omega)]
theorem Ho (G:Goods b ρ ns) {k:Str} {kd:Kd} (hk:k ∈ ns) (e:b.get k=some kd) {r:Ru} (hr:r ∈ mj::kd.rs):Lad.Le (fh b ρ r) (ρ k):=by
 rw [G.own k hk kd e];refine Lad.ka _ _ _ ?_;rcases Qv hr with z | z
 ·rw [z,show fh b ρ mj=Lad.b9 from KI b ρ]; exact bw ..
 ·exact bI _ (Ku ⟨r,z,Ja⟩)
theorem zh:eW mj/\Named ns mj.1/\Named ns mj.2:=by
 refine ⟨⟨trivial,trivial,by decide⟩,?_,?_⟩
 ·intro x hx; exact nomatch hx
 ·intro x hx; exact nomatch hx
theorem iC (G:Goods b ρ ns) {k:Str} {kd:Kd} (hk:k ∈ ns) (e:b.get k=some kd) {r:Ru} (hr:r ∈ mj::kd.rs):eW r/\Named ns r.1/\Named ns r.2:=by
 rcases Qv hr with z | z
 ·rw [z]; exact zh
 ·exact G.nm k hk kd e r z
theorem i8 (G:Goods b ρ ns) {k:Str} {kd:Kd} (hk:k ∈ ns) (e:b.get k=some kd) {r:Ru} (hr:r ∈ mj::kd.rs) (hn:0<=n) :
  (gH r n).Ok (1000000001*n+2000000002)/\Named ns (gH r n)/\rk b ρ (gH r n)=(rk b ρ r.1).cu (Lad.bM (rk b ρ r.2) n)/\Lad.R (rk b ρ r.1)/\Lad.R (rk b ρ r.2):=by
 obtain ⟨r1,r2,r3⟩:=iC G hk e hr;refine ⟨oz r1 hn,eM r2 (i4 r3 n),Fc r1 hn G.rt r2 r3,my G r1.1 r2,my G r1.2.1 r3⟩
theorem sN (G:Goods b ρ ns) {k:Str} (hk:k ∈ ns):du b ρ (k,.nil)=ρ k:=by
 show dJ (b.wide k) (ρ k) (rk b ρ .nil)=ρ k;rw [lF];exact Lad.qS (G.rt k hk).2
theorem z9 {k:Str} (n:Int):b.far k n=if b.wide k=true then n else 0:=by
 unfold Bk.far Bk.wide;cases b.get k with
 | none=>rfl
 | some kd=>rfl
theorem sA (G:Goods b ρ ns) {k:Str} {kd:Kd} {r:Ru} (e:b.get k=some kd) (hr:r ∈ mj::kd.rs) (hn:0<=n):∀ {pl:Pl} {g:Gr},g.Ok C->Named ns g->bareAt g pl=some k->(rk b ρ (stk b n (gH r n) pl g).1).lt (rk b ρ g)=true
 | [],g,_,_,h=>nomatch h
 | i::pl,g,ho,hg,hb=>by
  have hex:∃ p,g.ps[i]?=some p:=by
   cases hx:g.ps[i]? with
   | none=>rw [bareAt,hx] at hb; cases hb
   | some p=>exact ⟨p,Ja⟩
  obtain ⟨p,ep⟩:=hex;have hp:=Qu ep;obtain ⟨n1,n2⟩:=aJ.mp hg p hp;obtain ⟨o1,o2,_⟩:=cj ho hp;have hk:k ∈ ns:=dM hg hb;obtain ⟨f1,f2,f3,f4,f5⟩:=i8 (n:=n) G hk e hr hn;have f6:(1:Int)<=1000000001*n+2000000002:=by omega
  rw [y5 G hn f1 f6 f2 ho hg ep hb,mH G ho hg hp];have rW:=my G (g6 (t:=p.1) (m:=1) ho (by decide)) (d5 hg p.1 1);have rt:=jq G n1 o2 n2;unfold Jw;by_cases ff:pl=[]
  ·subst ff;rw [if_pos rfl];obtain ⟨p',e',z⟩:=dw hb;rw [ep] at e';cases e';refine Lad.rJ rW (my G f1 f2) rt ?_;rw [z,sN G hk,f3];exact Lad.L1 (Lad.Aq f4 f5 hn) (Ho G hk e hr)
  ·rw [if_neg ff];obtain ⟨p',e',DS⟩:=cw ff hb;rw [ep] at e';cases e';obtain ⟨c1,c2,c3,c4⟩:=lR (b:=b) hn f1 f6 f2 ho hg hp DS;have hf:=b.oC p.1.1 hn;refine Lad.rJ rW ((jq G c3 c2 c4).bM (by omega)) rt ?_;have ih:=sA G e hr hn o2 n2 DS;have rh:=my G o2 n2;have LC:=my G c2 c4;show (Lad.bM (dJ (b.wide p.1.1) (ρ p.1.1) (rk b ρ (chg b n (gH r n) pl p).2)) (1+b.far p.1.1 n)).lt (dJ (b.wide p.1.1) (ρ p.1.1) (rk b ρ p.1.2))=true;obtain ⟨ro,IP⟩:=G.rt _ n1;rw [z9];cases hw:b.wide p.1.1 with
   | true =>
    rw [if_pos rfl];cases hq:ρ p.1.1 with
    | nil=>exact absurd hq IP
    | cons e0 m0 r0 =>
     rw [hq] at ro;exact Lad.wX ro rh LC ih hn
   | false =>
    rw [if_neg (by decide),Int.add_zero,Lad.mU (ro.dJ LC)];exact Lad.Fy ro LC rh IP ih
end Gr
namespace Gr
variable {b:Bk} {ρ:Str->Lad} {ns:List Str} {C F n:Int} {g X fr:Gr} {p:Tr × Int}
theorem pE {γ:Type} (f:γ->Int):∀ l:List (γ × Int),(∀ p ∈ l,f p.1=0)->wsum f l=0
 | [],_=>rfl
 | p::r,h=>by
  show f p.1*p.2+wsum f r=0;rw [h p (bw ..),pE f r fun q hq=>h q (bI _ hq)]; omega
theorem nj (G:Goods b ρ ns) {t:Tr} (hk:t.1 ∈ ns) (ho:t.2.Ok C) (hn:Named ns t.2):du b ρ t ≠ .nil:=by
 intro z;have h1:=Lad.BU (w:=b.wide t.1) (G.rt _ hk).1 (oY (b:=b) ho (RN.named G.rt hn)) (G.rt _ hk).2;have h2:Lad.Le (ρ t.1) .nil:=by
  rw [<- z]; exact h1
 rcases h2.cases with e | e
 ·exact (G.rt _ hk).2 e
 ·rw [Lad.cL] at e; cases e
theorem sP (G:Goods b ρ ns) (h:g.Ok C) (hn:Named ns g) (hg:g ≠ .nil):rk b ρ g ≠ .nil:=by
 cases g with
 | nil=>exact absurd rfl hg
 | cons k i m r =>
  have hp:((k,i),m) ∈ (Gr.cons k i m r).ps:=bw ..;obtain ⟨h1,h2⟩:=aJ.mp hn _ hp;have ho:=(cj h hp).2.1;intro z;have e:=mH G h hn hp;rw [z] at e;have h3:Lad.Le (du b ρ (k,i)) .nil:=by
   rw [e,Lad.ku];exact Lad.qP (jq G h1 ho h2) (my G (g6 h (by decide)) (d5 hn _ _))
  rcases h3.cases with e | e
  ·exact nj G h1 ho h2 e
  ·rw [Lad.cL] at e; cases e
theorem zt (G:Goods b ρ ns) (h:g.Ok C) (hn:Named ns g) (hg:g ≠ .nil):∃ p ∈ g.ps,Lad.lst (du b ρ p.1)=Lad.lst (rk b ρ g):=by
 have rg:=my G h hn;have ne:=sP G h hn hg;have s1:=Lad.Ew rg ne;have ex:∃ p ∈ g.ps,Lad.S (du b ρ p.1) (Lad.lst (rk b ρ g)) ≠ 0:=by
  rcases Classical.em (∃ p ∈ g.ps,Lad.S (du b ρ p.1) (Lad.lst (rk b ρ g)) ≠ 0) with z | z
  ·exact z
  ·exfalso
   have:Lad.S (rk b ρ g) (Lad.lst (rk b ρ g))=0:=by
    rw [rN];exact pE _ _ fun p hp=>Classical.byContradiction fun w=>z ⟨p,hp,w⟩
   omega
 obtain ⟨p,hp,hs⟩:=ex;obtain ⟨h1,h2⟩:=aJ.mp hn p hp;have rt:=jq G h1 (cj h hp).2.1 h2;have s2:0<=Lad.S (du b ρ p.1) (Lad.lst (rk b ρ g)):=by
  obtain ⟨B,hB,hb⟩:=rt;exact Lad.bW hb _
 refine ⟨p,hp,Lad.Le.Hs (Lad.zu rt (by omega)) (Lad.zu rg ?_)⟩;rw [mH G h hn hp,Lad.dz];have rW:=my G (g6 (t:=p.1) (m:=1) h (by decide)) (d5 hn p.1 1);have s3:=Lad.Ew rt (nj G h1 (cj h hp).2.1 h2);have s4:0<=Lad.S (rk b ρ (wo g p.1 1)) (Lad.lst (du b ρ p.1)):=by
  obtain ⟨B,hB,hb⟩:=rW;exact Lad.bW hb _
 omega
def Reach (b:Bk) (ρ:Str->Lad) (g:Gr) (t:Lad) (pl:Pl) (i:Nat) (r:Ru) (n:Int):Prop :=
 0<=n/\∃ k kd,bareAt g pl=some k/\b.get k=some kd/\(mj::kd.rs)[i]?=some r/\∀ n',n<=n'->Lad.Le t (rk b ρ (stk b n' (gH r n') pl g).1)
def rO (b:Bk) (ρ:Str->Lad) (x:Tr) (t:Lad) (pl:Pl) (i:Nat) (r:Ru) (n:Int):Prop :=
 0<=n/\∃ k kd,((pl=[]/\x=(k,.nil))\/(pl ≠ []/\bareAt x.2 pl=some k))/\b.get k=some kd/\(mj::kd.rs)[i]?=some r/\∀ n',n<=n'->Lad.Le t (Jw b ρ n' (gH r n') pl (x,1))
theorem sT (G:Goods b ρ ns) (h:g.Ok C) (hn:Named ns g) {at_:Nat} (ep:g.ps[at_]?=some p) (e:Lad.lst (du b ρ p.1)=Lad.lst (rk b ρ g)) {t:Lad} (rt:Lad.R t) (ht:t.lt (rk b ρ g)=true)
  {pl:Pl} {i:Nat} {r:Ru} (hT:rO b ρ p.1 (Lad.gone (rk b ρ g) (du b ρ p.1) t) pl i r n):Reach b ρ g t (at_::pl) i r n:=by
 obtain ⟨h0,k,kd,hk,ek,er,hr⟩:=hT;have hp:=Qu ep;obtain ⟨n1,n2⟩:=aJ.mp hn p hp;have o2:=(cj h hp).2.1;have hb:bareAt g (at_::pl)=some k:=by
  rw [bareAt,ep];rcases hk with ⟨h1,h2⟩ | ⟨h1,h2⟩
  ·subst h1;show (if ([]:Pl)=[] then (if p.1.2=.nil then some p.1.1 else none) else _)=some k;rw [if_pos rfl,h2,if_pos rfl]
  ·show (if pl=[] then _ else bareAt p.1.2 pl)=some k;rw [if_neg h1,h2]
 refine ⟨h0,k,kd,hb,ek,er,fun n' zJ=>?_⟩;have n0:0<=n':=by omega
 have kn:k ∈ ns:=dM hn hb;have rm:=Qu er;obtain ⟨f1,f2,f3,f4,f5⟩:=i8 (n:=n') G kn ek rm n0;have f6:(1:Int)<=1000000001*n'+2000000002:=by omega
 rw [y5 G n0 f1 f6 f2 h hn ep hb];have rW:=my G (g6 (t:=p.1) (m:=1) h (by decide)) (d5 hn p.1 1);have rp:=jq G n1 o2 n2;have rc:Lad.R (Jw b ρ n' (gH r n') pl p):=by
  unfold Jw
  split
  ·exact my G f1 f2
  ·rename_i ff;rcases hk with ⟨h1,_⟩ | ⟨h1,h2⟩
   ·exact absurd h1 ff
   ·obtain ⟨c1,c2,c3,c4⟩:=lR (b:=b) n0 f1 f6 f2 h hn hp h2;have:=b.oC p.1.1 n0;exact (jq G c3 c2 c4).bM (by omega)
 have Js:g ≠ .nil:=fun z=>by rw [z] at hp; exact nomatch hp
 have IJ:=sP G h hn Js;have q:=hr n' zJ;have ew:=mH G h hn hp;rw [ew] at q ht IJ e;refine Lad.CL rW rp (nj G n1 o2 n2) rt rc IJ e.symm ht ?_;exact q
theorem vc (G:Goods b ρ ns) {k:Str} {kd:Kd} (hk:k ∈ ns) (ek:b.get k=some kd) {i:Nat} {r:Ru} (er:(mj::kd.rs)[i]?=some r) (h0:0<=n) {t:Lad}
  (hr:∀ n',n<=n'->Lad.Le t ((rk b ρ r.1).cu (Lad.bM (rk b ρ r.2) n'))):rO b ρ (k,.nil) t [] i r n:=by
 refine ⟨h0,k,kd,.inl ⟨rfl,Ja⟩,ek,er,fun n' zJ=>?_⟩;obtain ⟨f1,f2,f3,f4,f5⟩:=i8 (n:=n') G hk ek (Qu er) (by omega);show Lad.Le t (if ([]:Pl)=[] then rk b ρ (gH r n') else _);rw [if_pos rfl,f3];exact hr n' zJ
theorem ny (G:Goods b ρ ns) {x:Tr} (hk:x.1 ∈ ns) (nk:dN x.1) (ho:x.2.Ok C) (hn:Named ns x.2) {t u:Lad} (rt:Lad.R t) {pl:Pl} {i:Nat} {r:Ru} (hu:Reach b ρ x.2 u pl i r n) {n2:Int} (hle:n<=n2)
  (hf:b.wide x.1=false->u=Lad.jf (ρ x.1) t) (hw:b.wide x.1=true->u=Lad.jf (Lad.hde (ρ x.1)) (Lad.hde t)/\Lad.Bl t<=n2):rO b ρ x t pl i r n2:=by
 obtain ⟨h0,k,kd,hb,ek,er,hr⟩:=hu;have ff:=wK hb;refine ⟨by omega,k,kd,.inr ⟨ff,hb⟩,ek,er,fun n' zJ=>?_⟩;have n0:0<=n':=by omega
 have kn:k ∈ ns:=dM hn hb;obtain ⟨f1,f2,f3,f4,f5⟩:=i8 (n:=n') G kn ek (Qu er) n0;have f6:(1:Int)<=1000000001*n'+2000000002:=by omega
 have o2:=lg (b:=b) n0 f6 f1 ho hb;have m2:=fA (b:=b) (n:=n') f2 hb hn;have rh:=my G o2 m2;obtain ⟨ro,IP⟩:=G.rt _ hk;have q:=hr n' (by omega);show Lad.Le t (if pl=[] then _ else Lad.bM (dJ (b.wide x.1) (ρ x.1) (rk b ρ (stk b n' (gH r n') pl x.2).1)) (1+b.far x.1 n'));rw [if_neg ff,z9];cases vr:b.wide x.1 with
 | true =>
  obtain ⟨eu,h3⟩:=hw vr;rw [if_pos rfl];cases Ms:ρ x.1 with
  | nil=>exact absurd Ms IP
  | cons e0 m0 r0 =>
   rw [Ms] at ro eu;rw [eu] at q;exact Lad.uG ro rt rh q (by omega) n0
 | false =>
  rw [if_neg (by decide),Int.add_zero,Lad.mU (ro.dJ rh)];rw [hf vr] at q;exact Lad.vI ro rt rh q
end Gr
theorem Lad.nW:∀ ls:List Lad,(∀ l ∈ ls,l.deep<=31)->PyData.canLayAll0 (ls.map Lad.enc)=true
 | [],_=>rfl
 | l::r,h=>by
  show (PyData.canLay0 l.enc&&PyData.canLayAll0 (r.map Lad.enc))=true;rw [SeqAt.canLay_of_shaped (Lad.aA (h l (bw ..))),nW r fun k hk=>h k (bI _ hk)]
  rfl
theorem Lad.CY {l:Lad} (h:l.Ok B) (hB:1<=B) (x:Lad):0<=Lad.S l x/\Lad.S l x < B:=by
 rcases Lad.cF h x with ⟨e,_⟩ | ⟨m,_,e,h1,h2⟩ <;> omega
theorem Lad.G0 {l:Lad} (h:l.Ok B) (hB:1<=B):0<=Lad.Bl l/\Lad.Bl l<=B:=by
 cases l with
 | nil=>exact ⟨Kw _,by show (0:Int)<=B; omega⟩
 | cons e m r =>
  obtain ⟨_,h1,h2,_⟩:=h;simp only [Lad.Bl]
  split <;> omega
theorem Lad.zP (l:Lad):(Lad.hde l).deep<=l.deep:=by
 cases l with
 | nil=>exact Yc _
 | cons e m r=>exact Nat.le_of_lt (Lad.av (.cons e m r) (e,m) (bw ..))
theorem Lad.xR (l:Lad):(Lad.hde l).parts<=l.parts:=by
 cases l with
 | nil=>exact Yc _
 | cons e m r=>exact Nat.le_of_lt (Lad.bE (.cons e m r) (e,m) (bw ..))
theorem Lad.Gx {l:Lad} (h:l.Ok B):(Lad.hde l).Ok B:=by
 cases l with
 | nil=>exact trivial
 | cons e m r=>exact h.1
theorem Lad.sX (l:Lad):(Lad.lst l).deep<=l.deep:=by
 by_cases hl:l=.nil
 ·rw [hl]; exact Yc _
 ·obtain ⟨qs,p,e⟩:=Lad.snoc_of hl;rw [Lad.jF e];exact Nat.le_of_lt (Lad.av l p (by rw [e]; simp))
theorem Lad.gone_ok {w l g:Lad} {A:Int} (hw:w.Ok A) (hA:1<=A) (hl:l.Ok B) (hB:1<=B) (hg:g.Ok C) (hC:1<=C):(Lad.gone w l g).Ok (B+C) :=
 Lad.fJ (Lad.vj hl) (Lad.uZ ⟨A,hA,Lad.vj hw⟩ hg hC) hB hC
theorem Lad.vG (w l g:Lad):(Lad.gone w l g).parts<=l.parts+g.parts:=by
 have h1:=Lad.fC (Lad.low l) (Lad.jf (Lad.low w) g);have h2:=Lad.lI l;have h3:=Lad.iZ (Lad.low w) g;unfold Lad.gone;omega
theorem Lad.xU {w l g:Lad} (h1:l.deep<=n) (h2:g.deep<=n):(Lad.gone w l g).deep<=n :=
 Lad.eV (Lad.nQ h1) (Yb (Lad.j4 _ _) h2)
theorem zgm {K:Qn} {y:V} {t:Lad} {σ:L2.St} {H:Hp} (hσ:σ[i]?=some (some y)) (hy:LA K H y t) (q:∀ (ev:V) (H2:Hp),SB [] H H2->LA K H2 ev (Lad.hde t)->Q ev H2) :
  tIf (fun σ H Q=>tVar i σ H fun x H'=>∃ k,TruV K x H' k/\Q k H') (tOp (rIxT K) (tOp (rIxT K) (tVar i) (tC (.int 0))) (tC (.int 0))) (tTup tNil) σ H Q:=by
 obtain ⟨b,ys,rfl,hZ,fQ⟩:=je hy;refine ⟨_,hσ,_,.inr (.inl ⟨ys,hZ,Ja⟩),?_⟩;cases t with
 | nil =>
  cases fQ;refine iteF ⟨Z0,fun c hc=>q _ _ (SB.new hc _) (uf (SqT.of Qt))⟩
 | cons e m r =>
  rw [show (Lad.cons e m r).ps=(e,m)::r.ps from rfl] at fQ;cases fQ with
  | @cons y0 yr _ _ h0 pT =>
  obtain ⟨c,ue,rfl,jQ,hle⟩:=jW h0;refine iteT ⟨_,hσ,b,_,_,_,Ja,Ja,hZ,atI_nat (j:=0) rfl,c,_,_,_,Ja,Ja,jQ,atI_nat (j:=0) rfl,q _ _ SB.refl hle⟩
structure LFitW (l:Lad):Prop where
 deep:l.deep<=29
 parts:l.parts<=900000
 num:∀ p ∈ l.ps,0<=p.2/\p.2 < 2 ^ 2000
theorem LFit.w {l:Lad} (h:LFit l):LFitW l:=⟨Yb h.deep (by decide),Yb h.parts (by decide),h.num⟩
def Gr.cW (b:Bk) (ρ:Str->Lad) (ns:List Str):Gr->Prop
 | .nil=>True
 | .cons k g m r=>(k ∈ ns/\k ∈ b.names/\ρ k ≠ .nil/\LFitW (ρ k)/\LFitW (Gr.rk b ρ g)/\LFitW (Gr.du b ρ (k,g))/\0<=m/\m < 2 ^ 2000/\((Gr.rkT b ρ (.cons k g m r)).flatMap Lad.ps).length<=1900000)/\Gr.cW b ρ ns g/\Gr.cW b ρ ns r
namespace Gr
variable {b:Bk} {ρ:Str->Lad} {ns:List Str}
theorem rP.w:∀ {g:Gr},rP b ρ ns g->cW b ρ ns g
 | .nil,_=>trivial
 | .cons k g m r,h=>by
  obtain ⟨⟨h1,h2,h3,h4,h5,h6,h7,h8,h9⟩,hg,hr⟩:=h;exact ⟨⟨h1,h2,h3,h4.w,h5.w,h6.w,h7,h8,Yb h9 (by decide)⟩,rP.w hg,rP.w hr⟩
theorem cW.at:∀ {g:Gr},cW b ρ ns g->∀ p ∈ g.ps,(p.1.1 ∈ ns/\p.1.1 ∈ b.names/\ρ p.1.1 ≠ .nil/\LFitW (ρ p.1.1)/\LFitW (rk b ρ p.1.2)/\LFitW (du b ρ p.1)/\0<=p.2/\p.2 < 2 ^ 2000)/\cW b ρ ns p.1.2
 | .nil,_,p,hp=>nomatch hp
 | .cons k g m r,h,p,hp=>by
  obtain ⟨⟨h1,h2,h3,h4,h5,h6,h7,h8,_⟩,hg,hr⟩:=h;rcases Qv hp with rfl | hp
  ·exact ⟨⟨h1,h2,h3,h4,h5,h6,h7,h8⟩,hg⟩
  ·exact cW.at hr p hp
theorem cW.len:∀ {g:Gr},cW b ρ ns g->((rkT b ρ g).flatMap Lad.ps).length<=1900000
 | .nil,_=>by simp [rkT]
 | .cons k g m r,h=>h.1.2.2.2.2.2.2.2.2
theorem cW.named:∀ {g:Gr},cW b ρ ns g->Named ns g
 | .nil,_=>fun x hx=>nomatch hx
 | .cons k g m r,h=>by
  intro x hx;rcases Qv hx with z | hx
  ·rw [z]; exact h.1.1
  ·rcases Qw hx with hx | hx
   ·exact cW.named h.2.1 x hx
   ·exact cW.named h.2.2 x hx
theorem cW.mono {ms:List Str} (h:∀ n ∈ ns,n ∈ ms):∀ {g:Gr},cW b ρ ns g->cW b ρ ms g
 | .nil,_=>trivial
 | .cons k g m r,⟨h1,h2,h3⟩=>⟨⟨h _ h1.1,h1.2⟩,cW.mono h h2,cW.mono h h3⟩
def Bd (b:Bk) (ρ:Str->Lad) (P:Nat) (B:Int) (g:Gr):Prop:=∀ x ∈ g.within,(du b ρ x.1).parts<=P/\(du b ρ x.1).Ok B
theorem Bd.at {P:Nat} {g:Gr} (h:Bd b ρ P B g) {p:Tr × Int} (hp:p ∈ g.ps):((du b ρ p.1).parts<=P/\(du b ρ p.1).Ok B)/\Bd b ρ P B p.1.2:=by
 have hw:∀ x ∈ p::p.1.2.within,x ∈ g.within:=fun x hx=>by
  rw [dO];exact List.mem_flatMap.mpr ⟨p,hp,hx⟩
 exact ⟨h p (hw p (bw ..)),fun x hx=>h x (hw x (bI _ hx))⟩
end Gr
def ZC (K:Qn) (C:Addr):Sp:=fun vs H Q _=>∃ (v u t:V) (b:Bk) (n:Str) (o l:Lad),vs=[v,.str n,u,t]/\hJ K C H v b/\b.length<=1000/\n ∈ b.names/\(LA K H u o/\o ≠ .nil/\LFitW o)/\(LA K H t l/\LFitW l)/\∀ (x:V) (H':Hp),SB [] H H'->LA K H' x (dJ (b.wide n) o l)->Q x H'
def IF (K:Qn) (C:Addr) (m:Nat):Sp:=fun vs H Q _=>∃ (v t:V) (d:Addr) (b:Bk) (ρ:Str->Lad) (ns:List Str) (k:Str) (g:Gr),vs=[v,.ref d,t]/\hJ K C H v b/\b.length<=1000/\oP K H d ρ ns/\Dp K H t (Gr.aO (k,g))/\g.deep < m/\(k ∈ ns/\k ∈ b.names/\ρ k ≠ .nil/\LFitW (ρ k)/\LFitW (Gr.rk b ρ g))/\Gr.cW b ρ ns g/\g.parts<=900/\∀ (x:V) (H':Hp),SB [] H H'->LA K H' x (Gr.du b ρ (k,g))->Q x H'
def Bo (K:Qn) (C:Addr) (m:Nat):Sp:=fun vs H Q _=>∃ (v u:V) (d:Addr) (b:Bk) (ρ:Str->Lad) (ns:List Str) (g:Gr),vs=[v,.ref d,u]/\hJ K C H v b/\b.length<=1000/\oP K H d ρ ns/\GA K H u g/\g.deep < m/\Gr.cW b ρ ns g/\g.parts<=900/\∀ (x:V) (H':Hp),SB [] H H'->LA K H' x (Gr.rk b ρ g)->Q x H'
theorem zau {w:World} {K:Qn} {fd:FuncData} {C:Addr} {ps:List Str}:FnOk P w K mg base CX0 k f fd ps (Bo K C 0):=vW fun vs H Q E ⟨_,_,_,_,_,_,_,_,_,_,_,_,h,_⟩=>by omega
def z7z (K:Qn):Sp:=fun vs H Q _=>∃ (v:V) (l:Lad),vs=[v]/\LA K H v l/\l ≠ .nil/\l.parts<=900000/\∀ (x:V) (H':Hp),SB [] H H'->LA K H' x (Lad.low l)->Q x H'
def Sb (K:Qn):Sp:=fun vs H Q _=>∃ (v u:V) (l k:Lad),vs=[v,u]/\LA K H v l/\LA K H u k/\l.deep<=29/\k.deep<=29/\l.parts<=900000/\k.parts<=900000/\∀ (x:V) (H':Hp),SB [] H H'->LA K H' x (Lad.jf l k)->Q x H'
def YO (K:Qn):Sp:=fun vs H Q _=>∃ (v u y:V) (w l g:Lad),vs=[v,u,y]/\(LA K H v w/\LA K H u l/\LA K H y g)/\(w ≠ .nil/\l ≠ .nil)/\(w.deep<=29/\l.deep<=29/\g.deep<=29)/\(w.parts<=900000/\l.parts<=900000/\g.parts<=900000)/\∀ (x:V) (H':Hp),SB [] H H'->LA K H' x (Lad.gone w l g)->Q x H'
def z7q (K:Qn):Sp:=fun vs H Q _=>∃ (v:V) (l:Lad),vs=[v]/\LA K H v l/\l.parts<=900000/\Q (.int (Lad.Bl l)) H
structure Gds (b:Bk) (ρ:Str->Lad) (es:List Str):Prop extends Gr.Goods b ρ es where
 ok:b.Ok
 sub:∀ n ∈ es,n ∈ b.names
 ru:∀ n ∈ es,∀ kd,b.get n=some kd->∀ r ∈ kd.rs,vO b ρ es r/\(fh b ρ r).deep<=31
theorem zhq {es:List Str} (ok:b.Ok) (ow:OwnR b ρ) (eo:EndO b es) (hR:∀ n ∈ b.names,EndK b n->Lad.R (ρ n)/\ρ n ≠ .nil):Gds b ρ es:=by
 have kj:∀ n ∈ es,∀ m ∈ adj b n,m ∈ es:=fun n hn m hm=>(eo.mem m).mpr ⟨Dc ok hm,((eo.mem n).mp hn).2.next hm⟩;have Mx:∀ n ∈ es,∀ kd,b.get n=some kd->∀ r ∈ kd.rs,∀ x ∈ Ru.within r,x.1.1 ∈ es:=fun n hn kd e r hr x hx=>kj n hn _ (by rw [Y8 e]; exact yu hr hx);refine ⟨⟨fun n hn=>hR n ((eo.mem n).mp hn).1 ((eo.mem n).mp hn).2,fun n hn kd e r hr=>?_,fun n hn kd e=>?_⟩,ok,fun n hn=>((eo.mem n).mp hn).1,fun n hn kd e r hr=>?_⟩
 ·obtain ⟨km,rfl⟩:=Bk.get_some e;refine ⟨(ok.named km hr).1,fun x hx=>Mx _ hn kd e r hr x (gR _ hx),fun x hx=>Mx _ hn kd e r hr x (jr _ hx)⟩
 ·obtain ⟨km,rfl⟩:=Bk.get_some e;exact ow.own kd km ((eo.mem _).mp hn).2
 ·obtain ⟨km,rfl⟩:=Bk.get_some e;have he:=(eo.mem _).mp hn;have hf:=ow.fit kd km he.2 es (kj _ hn) r hr;exact ⟨hf,Yb (Lad.kB hf.2.2.1 hf.2.2.2.1 (by decide)) (by decide)⟩
def Zh (K:Qn) (C:Addr):Sp:=fun vs H Q _=>∃ (v y:V) (d:Addr) (k:Str) (b:Bk) (ρ:Str->Lad) (es:List Str) (t:Lad) (D:Int),vs=[v,.ref d,.str k,y]/\hJ K C H v b/\oP K H d ρ es/\Gds b ρ es/\k ∈ es/\(LA K H y t/\t.Ok D/\1<=D/\t.deep<=29/\t.parts<=900000)/\(ρ k).deep<=29/\t.lt (ρ k)=true /\
 ∀ (p:Addr) (H':Hp) (kd:Kd) (i:Nat) (r:Ru) (n:Int),SB [] H H'->SqT K H' p [.int (i:Nat),.int n]->b.get k=some kd->(mj::kd.rs)[i]?=some r->0<=n->n<=D->(∀ n',n<=n'->Lad.Le t ((Gr.rk b ρ r.1).cu (Lad.bM (Gr.rk b ρ r.2) n')))->Q (.ref p) H'
def P1 (K:Qn) (H:Hp) (p:Addr) (pl:Pl) (i:Nat) (n:Int):Prop:=∃ a:Addr,SqT K H p [.ref a,.int (i:Nat),.int n]/\SqT K H a (pl.map fun n:Nat=>V.int (n:Int))
def SN (K:Qn) (C:Addr) (m:Nat):Sp:=fun vs H Q _=>∃ (v z y:V) (d:Addr) (b:Bk) (ρ:Str->Lad) (es:List Str) (k:Str) (g:Gr) (t:Lad) (D E B:Int) (P:Nat),vs=[v,.ref d,z,y]/\hJ K C H v b/\oP K H d ρ es/\Gds b ρ es/\Dp K H z (Gr.aO (k,g))/\g.deep < m/\(k ∈ es/\LFitW (ρ k)/\LFitW (Gr.rk b ρ g)/\dN k)/\Gr.cW b ρ es g/\((g.parts<=900/\g.deep < 20)/\g.Ok E/\Gr.Bd b ρ P B g) /\
 (LA K H y t/\t.Ok D/\1<=D/\1<=B/\t.deep<=29/\t.parts+P*g.deep<=900000/\D+B*g.deep<=2 ^ 1990)/\t.lt (Gr.du b ρ (k,g))=true /\
 ∀ (p:Addr) (H':Hp) (pl:Pl) (i:Nat) (r:Ru) (n:Int),SB [] H H'->P1 K H' p pl i n->Gr.rO b ρ (k,g) t pl i r n->n<=D+B*g.deep->Q (.ref p) H'
def IA (K:Qn) (C:Addr) (m:Nat):Sp:=fun vs H Q _=>∃ (v z y:V) (d:Addr) (b:Bk) (ρ:Str->Lad) (es:List Str) (g:Gr) (t:Lad) (D E B:Int) (P:Nat),vs=[v,.ref d,z,y]/\hJ K C H v b/\oP K H d ρ es/\Gds b ρ es/\GA K H z g/\g.deep < m/\Gr.cW b ρ es g/\(LFitW (Gr.rk b ρ g)/\(g.parts<=900/\g.deep < 20)/\g.Ok E/\Gr.Bd b ρ P B g) /\
 (LA K H y t/\t.Ok D/\1<=D/\1<=B/\t.deep<=29/\t.parts+P*g.deep<=900000/\D+B*g.deep<=2 ^ 1990)/\t.lt (Gr.rk b ρ g)=true /\
 ∀ (p:Addr) (H':Hp) (pl:Pl) (i:Nat) (r:Ru) (n:Int),SB [] H H'->P1 K H' p pl i n->Gr.Reach b ρ g t pl i r n->n<=D+B*g.deep->Q (.ref p) H'
theorem zal {w:World} {K:Qn} {fd:FuncData} {C:Addr} {ps:List Str}:FnOk P w K mg base (L2.CX P w) k f fd ps (IA K C 0):=zd9 fun vs H Q E ⟨_,_,_,_,_,_,_,_,_,_,_,_,_,_,_,_,_,_,h,_⟩=>by omega
def XI (K:Qn) (a b:Addr):It where
 go:=fun i H=>∃ (xs ys:List V) (x y:V),(SqL K H a xs/\xs[i]?=some x)/\SqT K H b ys/\ys[i]?=some y
 yld:=fun i H v H'=>∃ (T:Addr) (x y:V),v=.ref T/\H T=none/\H'=upd H T (.tup [x,y])/\(∀ xs,SqL K H a xs->xs[i]?=some x)/\∀ ys,SqT K H b ys->ys[i]?=some y
 stop:=fun i H=>∃ xs ys:List V,SqL K H a xs/\SqT K H b ys/\i=min xs.length ys.length
theorem YT {z TI TO b:Addr} (D:ZipApart z TI TO i1 i2 a b):ZipSep2 z TI TO i1 i2 [i1,a] [i2,b] where
 TIz:=D.TIz
 TOz:=D.TOz
 TITO:=D.TITO
 TIi1:=D.TIi1
 mem1:=bw ..
 zf1:=by simp [D.i1z.symm,D.l1z.symm]
 Tf1:=by simp [D.TOi1,D.l1TO.symm]
 TIi2:=D.TIi2
 mem2:=bw ..
 zf2:=by simp [D.i2z.symm,D.l2z.symm]
 Tf2:=by simp [D.TOi2,D.l2TO.symm]
 sep1_2:=by simp [D.i12,D.l2i1.symm]
 sep2_1:=by simp [D.i12.symm,D.l1i2.symm]
abbrev ZSt (z TI TO i1 i2 a b:Addr) (i:Nat) (h:Heap):Prop:=IsZip h z TI TO .none/\IsPair h TI (.ref i1) (.ref i2)/\(∃ x y,IsPair h TO x y)/\h.IsListIter i1 a i/\h.IsTupleIter i2 b i
theorem Zy {z TI TO b:Addr} (st:ZSt z TI TO i1 i2 a b i h):∀ c ∈ [z,TI,TO,i1,i2],∃ o,h.get? c=some o/\∀ v,o.data ≠ .cell v:=by
 obtain ⟨hz,Bi,⟨x,y,CC⟩,⟨o1,e1,_,d1⟩,⟨o2,e2,_,d2⟩⟩:=st;intro c hc;simp only [List.mem_cons,aL,or_false] at hc;rcases hc with rfl | rfl | rfl | rfl | rfl
 ·exact ⟨_,hz,fun v q=>nomatch q⟩
 ·exact ⟨_,Bi,fun v q=>nomatch q⟩
 ·exact ⟨_,CC,fun v q=>nomatch q⟩
 ·exact ⟨o1,e1,fun v q=>by rw [d1] at q; cases q⟩
 ·exact ⟨o2,e2,fun v q=>by rw [d2] at q; cases q⟩
theorem zc4 {w:World} {K:Qn} {b z TI TO:Addr} (D:ZipApart z TI TO i1 i2 a b):Turn P w K (.Tuple elts kk wY) (XI K a b) [z,TI,TO,i1,i2] z (ZSt z TI TO i1 i2 a b) where
 mem:=bw ..
 obj:=fun i h st=>Zy st
 keep:=fun i h h' st k=>by
  obtain ⟨hz,Bi,⟨x,y,CC⟩,h1,h2⟩:=st;exact ⟨k z (by simp) _ hz,k TI (by simp) _ Bi,⟨x,y,k TO (by simp) _ CC⟩,h1.at fun o q=>k i1 (by simp) o q,h2.at fun o q=>k i2 (by simp) o q⟩
 item:=by
  intro X hP hw hK hc i pins s σ H E I hf st hg;subst hP hw hK;have live:=Zy st;obtain ⟨hz,Bi,⟨x0,y0,CC⟩,h1,h2⟩:=st;obtain ⟨xs,ys,x,y,⟨Jc,hx⟩,I5,hy⟩:=hg;obtain ⟨bV,rv,p,_⟩:=I.list Jc;obtain ⟨iK,Ly,p2,_⟩:=I.tuple I5;have l1:=rv.length;have l2:=Ly.length;have hd:X.A.in1.handled=none:=I.ok.hd hc;have U0:i < bV.toArray.size:=by
   have:=(Kq hx).1;simp; omega
  have UZ:i < iK.toArray.size:=by
   have:=(Kq hy).1;simp; omega
  have Dy:z < s.heap.objs.size:=Heap.lt_size hz;refine wpAny_pyNext_zipD2_item (YT D) (Draws.list hd i1 a D.l1i1 bV.toArray) (Draws.tuple hd i2 b D.l2i2 iK.toArray) hz Bi CC ⟨h1,p.isList⟩ ⟨h2,show s.heap.IsTuple b iK.toArray from p2⟩ U0 UZ fun u u2 h' tk e1 e2 z' TO' g1 g2 hT ri hk=>?_;refine ⟨_,rfl,wpAny_letOwnedTupleGo_zip (s:={ s with heap:=h',toks:=tk }) z' fun RV z'' sb=>?_⟩;have ou:RV.get? s.heap.objs.size=some { cls:=.type "tuple",data:=.seq #[u,u2] }:=(sb.2 _ (Nat.ne_of_gt Dy)).trans hT;obtain ⟨v1,Mh,r1⟩:=rv.get hx;obtain ⟨v2,Mg,r2⟩:=Ly.get hy;have q1:u=v1:=by
   have:bV[i]?=some u:=by simpa using e1
   rw [Mh] at this;exact (Yd this).symm
  have q2:u2=v2:=by
   have:iK[i]?=some u2:=by simpa using e2
   rw [Mg] at this;exact (Yd this).symm
  subst q1 q2;have new:ObjOk X.prog X.w (upd H s.heap.objs.size (.tup [x,y])) RV s.heap.objs.size (.tup [x,y]) :=
   ⟨dU,[u,u2],.cons r1 (.cons r2 .nil),⟨_,ou,rfl,_,rfl⟩⟩
  have I1:Inv X pins σ (upd H s.heap.objs.size (.tup [x,y])) { s with heap:=RV,toks:=tk } :=
   I.turnedNew (ch:=[z,TI,TO,i1,i2]) (fun c o hb q=>by
    simp only [List.mem_cons,aL,or_false,not_or] at hb;exact (sb.2 c hb.1).trans (hk c o hb.1 hb.2.2.1 hb.2.2.2.1 hb.2.2.2.2 q)) hf (Yc _) new
  refine ⟨.ref s.heap.objs.size,_,I1,Ja,⟨_,x,y,Ja,I.hok.fresh (Yc _),Ja,fun l hl=>by rw [I.list_inj hl Jc]; exact hx,fun l hl=>by rw [I.tuple_inj hl I5]; exact hy⟩,⟨z'',?_,⟨u,u2,?_⟩,?_,?_⟩,fun c Na=>?_⟩
  ·exact (sb.2 _ D.TIz).trans (hk _ _ D.TIz D.TITO D.TIi1 D.TIi2 Bi)
  ·exact (sb.2 _ D.TOz).trans TO'
  ·exact g1.1.at fun o q=>(sb.2 _ D.i1z).trans q
  ·exact g2.1.at fun o q=>(sb.2 _ D.i2z).trans q
  ·obtain ⟨o,ho,_⟩:=live c Na;rw [upd_ne (Nat.ne_of_lt (Heap.lt_size ho))];exact (hf c Na).1
 done:=by
  intro X hP hw hK hc i pins s σ H E I hf st hg;subst hP hw hK;obtain ⟨hz,Bi,⟨x0,y0,CC⟩,h1,h2⟩:=st;obtain ⟨xs,ys,Jc,I5,MS⟩:=hg;obtain ⟨bV,rv,p,_⟩:=I.list Jc;obtain ⟨iK,Ly,p2,_⟩:=I.tuple I5;have l1:=rv.length;have l2:=Ly.length;have hd:X.A.in1.handled=none:=I.ok.hd hc;have s1:bV.toArray.size=bV.length:=by simp
  have s2:iK.toArray.size=iK.length:=by simp
  exact wpAny_pyNext_zipD2_end (YT D) (Draws.list hd i1 a D.l1i1 bV.toArray) (Draws.tuple hd i2 b D.l2i2 iK.toArray) hz Bi CC ⟨h1,p.isList⟩ ⟨h2,show s.heap.IsTuple b iK.toArray from p2⟩ (by omega) (by omega) (by omega) fun h' tk hk=>⟨rfl,I.turnedL (ch:=[z,TI,TO,i1,i2]) (fun c o hb q=>by
   simp only [List.mem_cons,aL,or_false,not_or] at hb;exact hk c o hb.1 hb.2.2.1 hb.2.2.2.1 hb.2.2.2.2 q) hf⟩
 self:=fun A i s Q E st h=>wpAny_pyIter_zip st.1 h
def zic (K:Qn) (ta:TA):TI:=fun σ H R=>ta σ H fun vs H1=>∃ a b xs ys,vs=[.ref a,.ref b]/\SqL K H1 a xs/\SqT K H1 b ys/\R (XI K a b) H1
theorem zef {X:Cx} {e2:Expr} {ta:TA} {p pos:Pos} (hg:Gl X "zip") (hm:X.mg "zip"=none) (ha:PA X [e,e2] ta)
  (hs:starEach [e,e2] X.env=(false,eval e X.env)::starEach [e2] X.env:=by rfl) (ff:(backTo pos (starEach [e2] X.env)).any (·.1)=false:=by rfl) :
  PI X (.Tuple elts kk wY) (.Call (.Name "zip" p) [e,e2] [] pos) (zic X.K ta):=by
 refine ⟨fun pins s σ H R I h=>?_⟩;refine Call_ (ld_blt I hg hm PyProof.Rows.boot_zip (PyProof.Rows.callWith_type1 (thn (ha.run pos pins s σ H _ I h) fun us s1 ⟨vs,H1,I1,r1,q1⟩=>?_) hs ff));obtain ⟨a,b,xs,ys,rfl,Jc,I5,q⟩:=q1;cases r1 with
 | cons ra rr =>
 cases rr with
 | cons rb rr =>
 cases rr;cases ra;cases rb;obtain ⟨bV,rv,p1,_⟩:=I1.list Jc;obtain ⟨iK,Ly,p2,_⟩:=I1.tuple I5;have p2':s1.heap.IsTuple b iK.toArray:=p2;have lb:b < s1.heap.objs.size:=by obtain ⟨o,ho,_⟩:=p2'; exact Heap.lt_size ho
 refine zip_begins2 (begins_list a bV.toArray) (begins_tuple b iK.toArray) p1.isList p2' fun h' hz Bi CC c1 c2 ri hk=>wpAny_pyIter_zip hz ?_;have I2:Inv X pins σ H1 { s1 with heap:=h' }:=I1.kept (t':=s1.toks) hk;refine ⟨_,_,_,_,H1,Ja,I2,zc4 (PySem.W.ktu_apart s1.heap.objs.size a b p1.lt lb),⟨hz,Bi,⟨_,_,CC⟩,⟨_,c1,Ja,Ja⟩,⟨_,c2,Ja,Ja⟩⟩,fun c Na=>?_,q⟩;have hle:s1.heap.objs.size<=c:=by
  simp only [List.mem_cons,aL,or_false] at Na;rcases Na with z | z | z | z | z <;> rw [z] <;> first | exact Yc _ | exact Nat.le_add_right _ _
 exact I1.fpOk hle (I1.hok.fresh hle)
theorem zc0 {K:Qn} {b:Addr} {ys:List V} (hn:n=min xs.length ys.length):Walk (XI K a b) n (fun H=>SqL K H a xs/\SqT K H b ys) (YPair (fun i=>xs[i]?) (fun i=>ys[i]?)):=by
 subst hn;refine ⟨fun i H hi h=>?_,fun H h=>⟨xs,ys,h.1,h.2,Ja⟩,fun i H x H' hi h y=>?_⟩
 ·have h1:i < xs.length:=by omega
  have h2:i < ys.length:=by omega
  exact ⟨xs,ys,xs[i],ys[i],⟨h.1,Kp h1⟩,h.2,Kp h2⟩
 ·obtain ⟨T,u,u2,e1,e2,e3,e4,e5⟩:=y;exact ⟨T,u,u2,e1,e2,e3,e4 _ h.1,e5 _ h.2⟩
structure LFitL (l:Lad):Prop where
 deep:l.deep<=30
 parts:l.parts<=900000
 num:∀ p ∈ l.ps,0<=p.2/\p.2 < 2 ^ 400000
def Gr.fX (b:Bk) (ρ:Str->Lad) (ns:List Str):Gr->Prop
 | .nil=>True
 | .cons k g m r=>(k ∈ ns/\k ∈ b.names/\ρ k ≠ .nil/\LFitL (ρ k)/\LFitL (Gr.rk b ρ g)/\LFitL (Gr.du b ρ (k,g))/\0<=m/\m < 2 ^ 400000/\((Gr.rkT b ρ (.cons k g m r)).map Lad.parts).sum<=900000)/\Gr.fX b ρ ns g/\Gr.fX b ρ ns r
namespace Gr
variable {b:Bk} {ρ σ:Str->Lad} {C:Int} {ns:List Str}
theorem j6 {x:Nat} (hk:∀ n ∈ ns,(ρ n).Ok (2 ^ x)):∀ {g:Gr},Named ns g->g.Ok (2 ^ 2100)->(∀ l ∈ rkT b ρ g,l.Ok (2 ^ (x+2102*g.parts)))/\∀ y,((rkT b ρ g).map fun l=>Lad.S l y).sum < 2 ^ (x+2102*g.parts)
 | .nil,_,_=>And.intro (fun l hl=>nomatch hl) (fun y=>by
  show (0:Int) < _;have:=hO (x+2102*Gr.nil.parts); omega)
 | .cons k g m r,h,ho=>by
  obtain ⟨_,hg,Ci,rB,hr,_⟩:=ho;have mw:k ∈ ns:=h ((k,g),m) (bw ..);obtain ⟨g1,g2⟩:=j6 hk (g:=g) (fun x hx=>h x (bI _ (gR _ hx))) hg;obtain ⟨r1,r2⟩:=j6 hk (g:=r) (fun x hx=>h x (bI _ (jr _ hx))) hr;have e1:(Gr.cons k g m r).parts=1+g.parts+r.parts:=rfl;have p0:=hO (x+2102*g.parts);have px:=hO x;have io:(Lad.aZ (rkT b ρ g)).Ok (2 ^ (x+2102*g.parts)):=Lad.ee g1 (by omega) (Kw _) g2;have lo:=Lad.iI (w:=b.wide k) (hk k mw) io px p0;have m1:=jm (show x<=x+2102*g.parts by omega);have L3:(dJ (b.wide k) (ρ k) (Lad.aZ (rkT b ρ g))).Ok (2 ^ (x+2102*g.parts+1)):=lo.mono (by rw [yd]; omega);have to:=Lad.gM L3 (show 0<=m by omega);have q0:=hO (x+2102*g.parts+1);have hb:2 ^ (x+2102*g.parts+1)*m+2 ^ (x+2102*g.parts+1)<=2 ^ (x+2102*g.parts+2101):=by
   have:(2:Int) ^ (x+2102*g.parts+2101)=2 ^ (x+2102*g.parts+1)*2 ^ 2100:=by rw [<- Int.pow_add]
   rw [this];have h2:(2:Int) ^ (x+2102*g.parts+1)*(m+1)<=2 ^ (x+2102*g.parts+1)*2 ^ 2100:=Int.mul_le_mul_of_nonneg_left (by omega) (by omega);rw [Int.mul_add,Int.mul_one] at h2;exact h2
  have to2:=to.mono hb;have w1:=jm (show x+2102*g.parts+2101<=x+2102*(1+g.parts+r.parts)-1 by omega);have w2:=jm (show x+2102*r.parts<=x+2102*(1+g.parts+r.parts)-1 by omega);have w3:=yd (x+2102*(1+g.parts+r.parts)-1);rw [show x+2102*(1+g.parts+r.parts)-1+1=x+2102*(1+g.parts+r.parts) by omega] at w3;have w0:=hO (x+2102*(1+g.parts+r.parts)-1);rw [e1];refine ⟨fun l hl=>?_,fun y=>?_⟩
  ·rcases Qv hl with rfl | hl
   ·exact to2.mono (by omega)
   ·exact (r1 l hl).mono (by omega)
  ·show Lad.S (Lad.bM (dJ (b.wide k) (ρ k) (Lad.aZ (rkT b ρ g))) m) y+((rkT b ρ r).map fun l=>Lad.S l y).sum < _;have s2:=r2 y;have s3:Lad.S (Lad.bM (dJ (b.wide k) (ρ k) (Lad.aZ (rkT b ρ g))) m) y < 2 ^ (x+2102*g.parts+2101)\/Lad.S (Lad.bM (dJ (b.wide k) (ρ k) (Lad.aZ (rkT b ρ g))) m) y<=0:=by
    rcases Lad.cF to2 y with ⟨h1,_⟩ | ⟨mm,_,h2,_,h4⟩
    ·right; omega
    ·left; omega
   have w4:=hO (x+2102*g.parts+2101);rcases s3 with s3 | s3 <;> omega
theorem nq {P D x:Nat} (hk:∀ n ∈ ns,n ∈ b.names/\ρ n ≠ .nil/\(ρ n).parts<=P/\(ρ n).deep<=D/\(ρ n).Ok (2 ^ x)) (hP:1<=P):∀ {g:Gr},Named ns g->g.Ok (2 ^ 119)->P*g.parts<=890000->D+g.deep<=28->x+121*g.parts<=2000->cW b ρ ns g
 | .nil,_,_,_,_,_=>trivial
 | .cons k g m r,h,ho,hp,hd,hx=>by
  have DW:∀ n ∈ ns,(ρ n).parts<=P/\(ρ n).deep<=D:=fun n hn=>⟨(hk n hn).2.2.1,(hk n hn).2.2.2.1⟩;have DT:∀ n ∈ ns,(ρ n).Ok (2 ^ x):=fun n hn=>(hk n hn).2.2.2.2;have nm:2 ^ 119<=(2:Int) ^ 2000:=jm (by decide);obtain ⟨mw,wG⟩:k ∈ ns/\(Named ns g/\Named ns r):=⟨h ((k,g),m) (bw ..),fun x hx=>h x (bI _ (gR _ hx)),fun x hx=>h x (bI _ (jr _ hx))⟩;obtain ⟨LS,hg,Ci,rB,hr,tw⟩:=ho;have ho:(Gr.cons k g m r).Ok (2 ^ 119):=⟨LS,hg,Ci,rB,hr,tw⟩;have e1:(Gr.cons k g m r).parts=1+g.parts+r.parts:=rfl;have e2:(Gr.cons k g m r).deep=max (1+g.deep) r.deep:=rfl;rw [e1,Nat.mul_add,Nat.mul_add,Nat.mul_one] at hp;rw [e1] at hx;obtain ⟨s1,s2⟩:=d4 DW h;obtain ⟨g1,g2⟩:=d4 DW wG.1;obtain ⟨n1,n2⟩:=j5 DT wG.1 hg;have p0:=hO (x+121*g.parts);have px:=hO x;have io:(Lad.aZ (rkT b ρ g)).Ok (2 ^ (x+121*g.parts)):=Lad.ee n1 (by omega) (Kw _) n2;have lo:=(Lad.iI (w:=b.wide k) (DT k mw) io px p0);have m1:=jm (show x<=x+121*g.parts by omega);have m2:=jm (show x+121*g.parts+1<=2000 by omega);have m3:=yd (x+121*g.parts);obtain ⟨kb,BV,kp,kd,kx⟩:=hk k mw;have num:∀ {l:Lad},l.Ok (2 ^ 2000)->∀ p ∈ l.ps,0<=p.2/\p.2 < 2 ^ 2000:=fun hl p hp=>by
   have:=(Lad.aV.mp hl).1 p hp;exact ⟨by omega,this.2.2⟩
  have ip:(Lad.aZ (rkT b ρ g)).parts<=P*g.parts:=Yb (Lad.cV _) g1;have B4:(Lad.aZ (rkT b ρ g)).deep<=D+g.deep:=Lad.dP g2;have lp:=Lad.gG (b.wide k) (ρ k) (Lad.aZ (rkT b ρ g));have ld:=Lad.kc (w:=b.wide k) (o:=ρ k) (l:=Lad.aZ (rkT b ρ g)) (n:=D+g.deep) (by omega) B4;refine ⟨⟨mw,kb,BV,⟨by omega,by omega,num (kx.mono (by omega))⟩,⟨by show (Lad.aZ (rkT b ρ g)).deep<=29; omega,by show (Lad.aZ (rkT b ρ g)).parts<=900000; omega,num (io.mono (by omega))⟩,⟨by show (dJ (b.wide k) (ρ k) (Lad.aZ (rkT b ρ g))).deep<=29; omega,by show (dJ (b.wide k) (ρ k) (Lad.aZ (rkT b ρ g))).parts<=900000; omega,num (lo.mono (by omega))⟩,by omega,by omega,?_⟩,nq hk hP wG.1 hg (by omega) (by omega) (by omega),nq hk hP wG.2 hr (by omega) (by omega) (by omega)⟩;have key:∀ ls:List Lad,(ls.flatMap Lad.ps).length<=(ls.map Lad.parts).sum:=by
   intro ls
   induction ls with
   | nil=>exact Yc _
   | cons l r ih =>
    rw [List.flatMap_cons,Yf,Ky,List.sum_cons,Lad.a7];have:=l.aM;omega
  have:=key (rkT b ρ (.cons k g m r));rw [e1,Nat.mul_add,Nat.mul_add,Nat.mul_one] at s1;exact Yb (Yb this s1) (by omega)
theorem j7 {P D x:Nat} (hk:∀ n ∈ ns,n ∈ b.names/\ρ n ≠ .nil/\(ρ n).parts<=P/\(ρ n).deep<=D/\(ρ n).Ok (2 ^ x)) (hP:1<=P):∀ {g:Gr},Named ns g->g.Ok (2 ^ 2100)->P*g.parts<=890000->D+g.deep<=29->x+2102*g.parts<=400000->fX b ρ ns g
 | .nil,_,_,_,_,_=>trivial
 | .cons k g m r,h,ho,hp,hd,hx=>by
  have DW:∀ n ∈ ns,(ρ n).parts<=P/\(ρ n).deep<=D:=fun n hn=>⟨(hk n hn).2.2.1,(hk n hn).2.2.2.1⟩;have DT:∀ n ∈ ns,(ρ n).Ok (2 ^ x):=fun n hn=>(hk n hn).2.2.2.2;have nm:2 ^ 2100<=(2:Int) ^ 400000:=jm (by decide);obtain ⟨mw,wG⟩:k ∈ ns/\(Named ns g/\Named ns r):=⟨h ((k,g),m) (bw ..),fun x hx=>h x (bI _ (gR _ hx)),fun x hx=>h x (bI _ (jr _ hx))⟩;obtain ⟨LS,hg,Ci,rB,hr,tw⟩:=ho;have ho:(Gr.cons k g m r).Ok (2 ^ 2100):=⟨LS,hg,Ci,rB,hr,tw⟩;have e1:(Gr.cons k g m r).parts=1+g.parts+r.parts:=rfl;have e2:(Gr.cons k g m r).deep=max (1+g.deep) r.deep:=rfl;rw [e1,Nat.mul_add,Nat.mul_add,Nat.mul_one] at hp;rw [e1] at hx;obtain ⟨s1,s2⟩:=d4 DW h;obtain ⟨g1,g2⟩:=d4 DW wG.1;obtain ⟨n1,n2⟩:=j6 DT wG.1 hg;have p0:=hO (x+2102*g.parts);have px:=hO x;have io:(Lad.aZ (rkT b ρ g)).Ok (2 ^ (x+2102*g.parts)):=Lad.ee n1 (by omega) (Kw _) n2;have lo:=(Lad.iI (w:=b.wide k) (DT k mw) io px p0);have m1:=jm (show x<=x+2102*g.parts by omega);have m2:=jm (show x+2102*g.parts+1<=400000 by omega);have m3:=yd (x+2102*g.parts);obtain ⟨kb,BV,kp,kd,kx⟩:=hk k mw;have num:∀ {l:Lad},l.Ok (2 ^ 400000)->∀ p ∈ l.ps,0<=p.2/\p.2 < 2 ^ 400000:=fun hl p hp=>by
   have:=(Lad.aV.mp hl).1 p hp;exact ⟨by omega,this.2.2⟩
  have ip:(Lad.aZ (rkT b ρ g)).parts<=P*g.parts:=Yb (Lad.cV _) g1;have B4:(Lad.aZ (rkT b ρ g)).deep<=D+g.deep:=Lad.dP g2;have lp:=Lad.gG (b.wide k) (ρ k) (Lad.aZ (rkT b ρ g));have ld:=Lad.kc (w:=b.wide k) (o:=ρ k) (l:=Lad.aZ (rkT b ρ g)) (n:=D+g.deep) (by omega) B4;refine ⟨⟨mw,kb,BV,⟨by omega,by omega,num (kx.mono (by omega))⟩,⟨by show (Lad.aZ (rkT b ρ g)).deep<=30; omega,by show (Lad.aZ (rkT b ρ g)).parts<=900000; omega,num (io.mono (by omega))⟩,⟨by show (dJ (b.wide k) (ρ k) (Lad.aZ (rkT b ρ g))).deep<=30; omega,by show (dJ (b.wide k) (ρ k) (Lad.aZ (rkT b ρ g))).parts<=900000; omega,num (lo.mono (by omega))⟩,by omega,by omega,?_⟩,j7 hk hP wG.1 hg (by omega) (by omega) (by omega),j7 hk hP wG.2 hr (by omega) (by omega) (by omega)⟩;rw [e1,Nat.mul_add,Nat.mul_add,Nat.mul_one] at s1;exact Yb s1 (by omega)
end Gr
theorem Lad.j1 {bs:List (Lad × Int)} (h:∀ b ∈ bs,b.1.deep<=30):SeqAt.shaped (.list (bs.map Lad.aC))=true:=by
 have h1:PyData.canLayAll0 (bs.map Lad.aC)=true:=by
  induction bs with
  | nil=>simp [PyData.canLayAll0]
  | cons b r ih =>
   have:=ih fun c hc=>h c (bI _ hc);rw [Ky,PyData.canLayAll0,this];simp [Lad.aC,PyData.canLay0,PyData.canLayAll0,Lad.enc,Lad.oZ]
 have h2:PyData.depthAll (bs.map Lad.aC)<=62:=by
  induction bs with
  | nil=>simp [PyData.depthAll]
  | cons b r ih =>
   have e1:=ih (fun c hc=>h c (bI _ hc)) (by rw [Ky,PyData.canLayAll0,Bool.and_eq_true] at h1; exact h1.2);have e2:=h b (bw ..);have e3:=Lad.eL b;rw [Ky,PyData.depthAll];omega
 have h3:(PyData.list (bs.map Lad.aC)).depth=PyData.depthAll (bs.map Lad.aC)+1:=by simp [PyData.depth]
 unfold SeqAt.shaped;rw [PyData.canLay0,h1,Bool.true_and];exact Ya (by omega)
section
open PyProof.Rows PySem.AutoSeq1
theorem z51 (l:Addr) (items:Array Value) (n:Nat) (b:Addr) (oj:Array Value) (n2:Nat) (dd:Option Addr) (ss:Array (Option Value)) (I4:¬(!items.isEmpty&&Builtin.List.listTooLong (items.size+oj.size))=true) (lN:items.size<=sizeLine) (dS:items.size+oj.size<=sizeLine+1) :
  Meets (Builtin.«list.extend» ⟨[.ref l,.ref b],[]⟩) (fun _ R s=>s.heap.get? l=some { cls:=.type "list",dict:=none,data:=.seq items n,slots:=#[] }/\s.heap.get? b=some { cls:=.type "tuple",dict:=dd,data:=.seq oj n2,slots:=ss }/\R (.ok (.ret Value.none)) { s with heap:=s.heap.update l (Obj.mapSeq fun x=>x++oj),toks:=s.toks }) :=
 .of_wp fun prog w A R s h=>by
  obtain ⟨hp,g,d,tk,os⟩:=s; obtain ⟨hl,hb,h⟩:=h; have f1:=idx_int; have f2:=PySem.AutoSeq1.sub_tuple_tuple; have f3:=PySem.AutoSeq1.sub_list_list; have f4:=PySem.AutoSeq1.sub_tuple_list; have f5:=PySem.AutoSeq1.sub_list_tuple;
  have Rp:(items++oj).size<=sizeLine+1:=by rw [Array.size_append]; exact dS
  wp_walk using (wpAny_updateSeq hl rfl (hz:=lN) (_hz':=Rp)),wpAny_loadPart' hl,wpAny_loadPart' hb; exact ⟨_,Ja,h⟩
end
def zit (K:Qn):V->List V->Hp->VK->Prop:=fun x vs H Q=>∃ l b xs zs,x=.ref l/\vs=[.ref b]/\H l=some (.lst xs)/\SqT K H b zs/\xs.length+zs.length<=sizeLine/\Q .non (upd H l (.lst (xs++zs)))
theorem zat {X:Cx}:MtM X "list.extend" (zit X.K):=by
 intro pins s σ H x vs v us Q I rx rv h;obtain ⟨l,b,xs,zs,rfl,rfl,hH,hB,hz,q⟩:=h;cases rx;obtain ⟨u,rfl,ru⟩:=rv.one;cases ru;obtain ⟨z,bV,n,r,hl,e⟩:=I.lstM hH;obtain ⟨iK,r2,⟨⟨oc,od,oda,os⟩,e2,c2,n2,d2⟩,FD⟩:=I.tuple hB;dsimp only at c2 d2;subst c2 d2;have kO:=r2.length;have ri:bV.toArray.size+iK.toArray.size<=sizeLine:=by rw [List.size_toArray,List.size_toArray]; omega
 have Mw:¬ (!bV.toArray.isEmpty&&Builtin.List.listTooLong (bV.toArray.size+iK.toArray.size))=true:=by
  rw [notLongL ri,Bool.and_false];exact Bool.false_ne_true
 refine call_meets PySem.F.slot_list_extend ⟨_,e,Ja⟩ PySem.F.entry_list_extend (PySem.F.args_list_extend_2 _ _)
  (z51 l bV.toArray n b iK.toArray n2 od os Mw (by rw [List.size_toArray]; omega) (by omega)) ⟨e,e2,?_⟩
 refine ⟨.non,_,I.lset (its':=bV++iK) hH e (by simp) (r.append r2) ?_,Ja,q⟩;rw [Yf];omega
namespace Gr
variable {b:Bk} {ρ:Str->Lad} {ns:List Str}
theorem fX.at:∀ {g:Gr},fX b ρ ns g->∀ p ∈ g.ps,(p.1.1 ∈ ns/\p.1.1 ∈ b.names/\ρ p.1.1 ≠ .nil/\LFitL (ρ p.1.1)/\LFitL (rk b ρ p.1.2)/\LFitL (du b ρ p.1)/\0<=p.2/\p.2 < 2 ^ 400000)/\fX b ρ ns p.1.2
 | .nil,_,p,hp=>nomatch hp
 | .cons k g m r,h,p,hp=>by
  obtain ⟨⟨h1,h2,h3,h4,h5,h6,h7,h8,_⟩,hg,hr⟩:=h;rcases Qv hp with rfl | hp
  ·exact ⟨⟨h1,h2,h3,h4,h5,h6,h7,h8⟩,hg⟩
  ·exact fX.at hr p hp
theorem fX.sum:∀ {g:Gr},fX b ρ ns g->((rkT b ρ g).map Lad.parts).sum<=900000
 | .nil,_=>by simp [rkT]
 | .cons k g m r,h=>h.1.2.2.2.2.2.2.2.2
theorem fX.named:∀ {g:Gr},fX b ρ ns g->Named ns g
 | .nil,_=>fun x hx=>nomatch hx
 | .cons k g m r,h=>by
  intro x hx;rcases Qv hx with z | hx
  ·rw [z]; exact h.1.1
  ·rcases Qw hx with hx | hx
   ·exact fX.named h.2.1 x hx
   ·exact fX.named h.2.2 x hx
end Gr
namespace Gr
theorem vi {g:Gr} {p:Tr × Int} (h:p ∈ g.ps):p ∈ g.within:=by
 rw [dO]; exact List.mem_flatMap.mpr ⟨p,h,bw ..⟩
theorem uF {g:Gr} {p x:Tr × Int} (h:p ∈ g.ps) (hx:x ∈ p.1.2.within):x ∈ g.within:=by
 rw [dO]; exact List.mem_flatMap.mpr ⟨p,h,bI _ hx⟩
end Gr
inductive z0s {α β:Type} (F:α->β->Prop):List α->List β->Prop
 | nil:z0s F [] []
 | cons {a:α} {b:β} {as:List α} {bs:List β}:F a b->z0s F as bs->z0s F (a::as) (b::bs)
namespace z0s
variable {α β:Type} {F G:α->β->Prop}
theorem length:∀ {as:List α} {bs:List β},z0s F as bs->as.length=bs.length
 | _,_,.nil=>rfl
 | _,_,.cons _ h=>by rw [Yk,Yk,h.length]
theorem mono:∀ {as:List α} {bs:List β},z0s F as bs->(∀ a b,F a b->G a b)->z0s G as bs
 | _,_,.nil,_=>.nil
 | _,_,.cons h r,g=>.cons (g _ _ h) (r.mono g)
theorem append:∀ {as as':List α} {bs bs':List β},z0s F as bs->z0s F as' bs'->z0s F (as++as') (bs++bs')
 | _,_,_,_,.nil,h=>h
 | _,_,_,_,.cons h r,g=>.cons h (r.append g)
theorem get:∀ {as:List α} {bs:List β} {i:Nat} {a:α},z0s F as bs->as[i]?=some a->∃ b,bs[i]?=some b/\F a b
 | _,_,_,_,.nil,h=>nomatch h
 | _,_,0,_,.cons h r,e=>by
  cases e;exact ⟨_,Ja,h⟩
 | _,_,i+1,_,.cons h r,e=>r.get (i:=i) e
end z0s
def Ex (K:Qn) (H:Hp) (v:V) (k:Kd):Prop:=∃ (t l:Addr) (zs:List V),v=.ref t/\SqT K H t [.bl k.w,.ref l]/\H l=some (.lst zs)/\Bears K H Ru.enc zs k.rs
def kE (H:Hp) (ps:List Addr):Prop:=∀ a ∈ ps,∀ zs,H a ≠ some (.lst zs)
theorem kE.nil {H:Hp}:kE H []:=fun _ h=>nomatch h
theorem kE.one {H:Hp} (h:H d=some (.dK aU)):kE H [d]:=fun a ha zs z=>by
 rw [Qy ha,h] at z; cases z
theorem Ex.sb {K:Qn} {H H':Hp} {ps:List Addr} {v:V} {k:Kd} (h:Ex K H v k) (e:SB ps H H') (hn:kE H ps):Ex K H' v k:=by
 obtain ⟨t,l,zs,e1,e2,e3,e4⟩:=h;exact ⟨t,l,zs,e1,e.aH e2,e.keep _ _ e3 (fun z=>hn l z zs e3),e4.sb e Ru.af⟩
abbrev j9 (ns:List Str) (us:List V):List (Key × V):=List.zipWith (fun (n:Str) (u:V)=>((Sum.inr n:Key),u)) ns us
def C0 (K:Qn) (H:Hp) (d:Addr) (b:Bk):Prop:=∃ us:List V,H d=some (.dK (j9 b.names us))/\z0s (Ex K H) us b
theorem C0.sb {K:Qn} {H H':Hp} {ps:List Addr} {d:Addr} {b:Bk} (h:C0 K H d b) (e:SB ps H H') (hd:d ∉ ps) (hn:kE H ps):C0 K H' d b:=by
 obtain ⟨us,h1,h2⟩:=h;exact ⟨us,e.keep _ _ h1 hd,h2.mono fun _ _ q=>q.sb e hn⟩
def vR (K:Qn) (H:Hp) (d:Addr) (b:Bk):Prop:=∃ aU:List (Key × V),H d=some (.dK aU)/\∀ n kd,b.get n=some kd->∃ v,valV aU (Sum.inr n)=some v/\Ex K H v kd
theorem vR.sb {K:Qn} {H H':Hp} {ps:List Addr} {d:Addr} {b:Bk} (h:vR K H d b) (e:SB ps H H') (hd:d ∉ ps) (hn:kE H ps):vR K H' d b:=by
 obtain ⟨aU,h1,h2⟩:=h;exact ⟨aU,e.keep _ _ h1 hd,fun n kd hk=>by obtain ⟨v,h3,h4⟩:=h2 n kd hk; exact ⟨v,h3,h4.sb e hn⟩⟩
theorem vR.cH {K:Qn} {H H':Hp} (h:vR K H d b) (e:SB [] H H'):vR K H' d b:=h.sb e aL kE.nil
theorem vR.val {K:Qn} {H:Hp} {n:Str} {kd:Kd} (h:vR K H d b) (e:b.get n=some kd):∃ v,DGet H d (.str n) (some v)/\Ex K H v kd:=by
 obtain ⟨aU,h1,h2⟩:=h;obtain ⟨v,h3,h4⟩:=h2 n kd e;exact ⟨v,jk h1 h3,h4⟩
theorem Sw {F:V->Kd->Prop} {n:Str} {kd:Kd}:∀ {b:Bk} {us:List V},z0s F us b->b.get n=some kd->∃ v,valV (j9 b.names us) (Sum.inr n)=some v/\F v kd
 | [],_,_,h=>nomatch h
 | k::r,us,hp,h=>by
  cases hp with
  | @cons u _ AW _ h1 h2 =>
  by_cases e:k.n=n
  ·have:kd=k:=by
    unfold Bk.get at h;rw [List.find?_cons_of_pos (by simpa using e)] at h;exact (Yd h).symm
   rw [this];refine ⟨u,?_,h1⟩;show valV (((Sum.inr k.n:Key),u)::_) (Sum.inr n)=some u;rw [e];simp [valV]
  ·have h':Bk.get r n=some kd:=by
    unfold Bk.get at h;rw [List.find?_cons_of_neg (by simpa using e)] at h;exact h
   obtain ⟨v,h3,h4⟩:=Sw h2 h';refine ⟨v,?_,h4⟩;show valV (((Sum.inr k.n:Key),u)::j9 (Bk.names r) AW) (Sum.inr n)=some v;unfold valV;rw [List.find?_cons_of_neg (by simp only [decide_eq_true_eq]; exact fun z=>e (Sum.inr.inj z))];exact h3
def qa (b c:Bk):Prop:=∀ n,b.get n=c.get n
theorem C0.l {K:Qn} {H:Hp} {c:Bk} (h:C0 K H d b) (e:qa b c):vR K H d c:=by
 obtain ⟨us,h1,h2⟩:=h;exact ⟨_,h1,fun n kd hk=>Sw h2 ((e n).trans hk)⟩
theorem zev {us:List V} {n:Str} (hl:us.length=ns.length) (hn:n ∉ ns):putK (j9 ns us) (Sum.inr n) x=j9 (ns++[n]) (us++[x]):=by
 unfold j9;rw [K4 fun p hp z=>?_,List.zipWith_append (by omega)]
 ·rfl
 ·induction ns generalizing us with
  | nil=>cases hp
  | cons m r ih =>
   cases us with
   | nil=>cases hp
   | cons u us =>
    rw [List.zipWith_cons_cons] at hp;rcases Qv hp with rfl | hp
    ·exact hn (List.mem_cons.mpr (.inl (Sum.inr.inj z).symm))
    ·exact ih (by simp at hl; omega) (fun h=>hn (bI _ h)) hp
def bR (H:Hp) (p c:Addr):Prop:=∃ (ns:List Int) (a l s:Int),H p=some (.dK (gE c a l s))/\H c=some (.lst (ns.map V.int))/\ns.length<=63/\0<=a/\a<=ns.length/\(0<=l/\l < 10 ^ 320)/\(0<=s/\s < 2 ^ 31)
theorem bR.of {H:Hp} (h:OS H p):∃ c,bR H p c:=h
theorem bR.keep {H H':Hp} {p c:Addr} {ps:List Addr} (h:bR H p c) (e:SB ps H H') (h1:p ∉ ps) (h2:c ∉ ps):bR H' p c:=by
 obtain ⟨ns,a,l,s,a1,a2,a3⟩:=h;exact ⟨ns,a,l,s,e.keep _ _ a1 h1,e.keep _ _ a2 h2,a3⟩
theorem bR.sb {H H':Hp} (h:bR H p c) (e:SB [] H H'):bR H' p c:=h.keep e aL aL
theorem bR.ne {H:Hp} (h:bR H p c) (hq:H q=none):p ≠ q:=by
 obtain ⟨ns,a,l,s,a1,a2,a3⟩:=h;exact fun z=>by rw [z,hq] at a1; cases a1
theorem bR.nc {H:Hp} (h:bR H p c) (hq:H q=none):c ≠ q:=by
 obtain ⟨ns,a,l,s,a1,a2,a3⟩:=h;exact fun z=>by rw [z,hq] at a2; cases a2
theorem bR.some {H:Hp} (h:bR H p c):∀ q ∈ [p],H q ≠ none:=by
 intro q hq;rw [Qy hq];obtain ⟨ns,a,l,s,a1,a2,a3⟩:=h;exact fun z=>by rw [z] at a1; cases a1
theorem bR.IW {H:Hp} (h:bR H p c):∃ aU,H p=Option.some (.dK aU):=by
 obtain ⟨ns,a,l,s,a1,a2,a3⟩:=h;exact ⟨_,a1⟩
def AU:Sp:=fun vs H Q _=>∃ (p cl:Addr) (m:Int),vs=[.ref p,.int m]/\bR H p cl/\1<=m/\m < 2 ^ 2000/\∀ r H',0<=r->r < m->SB [p] H H'->bR H' p cl->Q (.int r) H'
def ZR (K:Qn):Sp:=fun vs H Q _=>∃ (p cl:Addr) (m:Nat),vs=[.ref p,.int (m:Int)]/\bR H p cl/\1<=m/\m<=8/\∀ (L:Addr) (ks:List Str) (H':Hp),SB [p] H H'->bR H' p cl->H L=none->H' L=some (.lst (ks.map V.str))->ks.length=m->ks.Nodup->(∀ k ∈ ks,dN k)->Q (.ref L) H'
def C8 (K:Qn) (n:Nat):Sp:=fun vs H Q _=>∃ (p nl cl:Addr) (ks:List Str) (m:Nat) (c:Int),vs=[.ref p,.ref nl,.int (m:Int),.int c]/\bR H p cl/\(H nl=some (.lst (ks.map V.str))/\nl ≠ p/\ks.length<=8/\∀ k ∈ ks,dN k)/\m < n/\m<=12/\3<=c/\c<=10 ^ 60 /\
 ∀ (v:V) (g:Gr) (H':Hp),SB [p] H H'->bR H' p cl->GA K H' v g->g.Ok (m*c+1)->g.parts<=m->g.deep<=m->Gr.Named ks g->(1<=m->ks ≠ []->g ≠ .nil)->Q v H'
def zkh (b:Bk):Prop:=∀ (i:Nat) (k:Kd),b[i]?=some k->∀ r ∈ k.rs,∀ x ∈ Ru.within r,x.1.1 ∈ Bk.names (b.take i)
structure Drawn (b:Bk) (m:Nat):Prop where
 ok:b.Ok
 len:b.length<=m
 ahead:zkh b
 few:∀ k ∈ b,∀ r ∈ k.rs,r.1.parts+r.2.parts<=3
def Ze (K:Qn):Sp:=fun vs H Q _=>∃ (p cl:Addr) (m:Nat),vs=[.ref p,.int (m:Int)]/\bR H p cl/\1<=m/\m<=6/\∀ (d:Addr) (b:Bk) (H':Hp),SB [p] H H'->bR H' p cl->H d=none->d ≠ p->C0 K H' d b->Drawn b m->Q (.ref d) H'
def ZY (K:Qn):Sp:=fun vs H Q _=>∃ (d:Addr) (b:Bk) (t:Bool),vs=[.ref d,.bl t]/\C0 K H d b/\b.length<=100/\∀ (L:Addr) (xs:List V) (H':Hp),SB [] H H'->H L=none->H' L=some (.lst xs)->KdAll K H' [L] xs (if t=true then b.reverse else b)->Q (.ref L) H'
def QJ (K:Qn):Sp:=fun vs H Q _=>∃ (v u:V) (l k:Lad),vs=[v,u]/\LA K H v l/\LA K H u k/\l.deep<=30/\k.deep<=30/\l.parts<=4000000/\k.parts<=4000000/\∀ (x:V) (H':Hp),SB [] H H'->LA K H' x (l.cI k)->Q x H'
def KP (K:Qn):Sp:=fun vs H Q _=>∃ (v u:V) (l k:Lad),vs=[v,u]/\LA K H v l/\LA K H u k/\l.deep<=30/\k.deep<=30/\l.parts<=4000000/\k.parts<=4000000/\∀ (x:V) (H':Hp),SB [] H H'->LA K H' x (Lad.mrg l k)->Q x H'
def ZA (K:Qn):Sp:=fun vs H Q _=>∃ (v u:V) (l k:Lad),vs=[v,u]/\LA K H v l/\LA K H u k/\Lad.R l/\Lad.R k/\l.deep<=30/\k.deep<=30/\l.parts<=1000000/\k.parts<=1000000/\∀ (x:V) (H':Hp),SB [] H H'->LA K H' x (l.oO k)->Q x H'
theorem Lad.wx:∀ (l k:Lad) (x:Lad),Lad.S (Lad.mrg l k) x=Lad.S l x+Lad.S k x
 | .nil,k,x=>by rw [Lad.pN]; show Lad.S k x=Lad.aG [] x+Lad.S k x; rw [Lad.bh]; omega
 | .cons e m r,.nil,x=>by rw [Lad.pM]; show _=_+Lad.aG [] x; rw [Lad.bh]; omega
 | .cons e m r,.cons f n s,x=>by
  have hc:∀ (e:Lad) (m:Int) (r:Lad),Lad.S (.cons e m r) x=(if e=x then m else 0)+Lad.S r x:=fun e m r=>Lad.ay e m r.ps x;rw [Lad.sW]
  split
  ·rename_i h;subst h;rw [hc,hc,hc,Lad.wx r s x]
   split <;> omega
  ·split
   ·rw [hc f n (Lad.mrg (.cons e m r) s),Lad.wx (.cons e m r) s x,hc f n s];omega
   ·rw [hc e m (Lad.mrg r (.cons f n s)),Lad.wx r (.cons f n s) x,hc e m r];omega
termination_by l k=>l.len+k.len
decreasing_by all_goals (simp only [Lad.len]; omega)
theorem Lad.mJ {l k:Lad} (hl:Lad.R l) (hk:Lad.R k):Lad.mrg l k=l.cu k:=by
 have rb:=hl.cu hk;obtain ⟨B,hB,h1⟩:=hl;obtain ⟨C,hC,h2⟩:=hk;exact Lad.R.ext ⟨B+C,by omega,Lad.zj h1 h2 hB hC⟩ rb fun x=>by rw [Lad.wx,Lad.dz]
structure LawR (b:Bk) (ρ:Str->Lad) (ns:List Str) (lv:Str->Nat):Prop extends Gr.Goods b ρ ns where
 len:ns.length<=8
 get:∀ n ∈ ns,∃ kd,b.get n=some kd
 few:∀ n ∈ ns,∀ kd,b.get n=some kd->kd.rs.length<=4
 rl:∀ n ∈ ns,∀ kd,b.get n=some kd->∀ r ∈ kd.rs,(Gr.fX b ρ ns r.1/\LFitL (Gr.rk b ρ r.1))/\Gr.fX b ρ ns r.2/\LFitL (Gr.rk b ρ r.2)
 fit:∀ n ∈ ns,LFitL (ρ n)
 down:∀ n ∈ ns,∀ kd,b.get n=some kd->∀ r ∈ kd.rs,∀ x ∈ Ru.within r,lv x.1.1 < lv n
 low:∀ n ∈ ns,lv n < 8
structure Memo (K:Qn) (H:Hp) (e:Addr) (ρ:Str->Lad) (ns ms:List Str):Prop where
 at_:oP K H e ρ ms
 nd:ms.Nodup
 sub:∀ m ∈ ms,m ∈ ns
theorem Memo.cH {K:Qn} {H H':Hp} {e:Addr} {ρ:Str->Lad} {ns ms:List Str} (h:Memo K H e ρ ns ms) (s:SB [] H H'):Memo K H' e ρ ns ms:=⟨h.at_.cH s,h.nd,h.sub⟩
theorem Memo.len {K:Qn} {H:Hp} {e:Addr} {ms:List Str} (h:Memo K H e ρ ns ms):ms.length<=ns.length:=h.nd.length_le_of_subset h.sub
theorem Memo.IW {K:Qn} {H:Hp} {e:Addr} {ms:List Str} (h:Memo K H e ρ ns ms):∃ aU,H e=some (.dK aU):=by
 obtain ⟨⟨us,h1,_⟩,_,_⟩:=h;exact ⟨_,h1⟩
theorem Memo.put {K:Qn} {H:Hp} {e:Addr} {ρ:Str->Lad} {ns ms:List Str} {n:Str} {x:V} (h:Memo K H e ρ ns ms) (h8:ns.length<=8) (hn:n ∈ ns) (hm:n ∉ ms) (hx:LA K H x (ρ n)):∃ H',DPut H e (.str n) x H'/\SB [e] H H'/\Memo K H' e ρ ns (ms++[n]):=by
 have hl:=h.len;obtain ⟨H',h1,h2,h3⟩:=h.at_.put hm (by omega) hx;refine ⟨H',h1,h2,h3,List.nodup_append.mpr ⟨h.nd,by simp,fun a ha b hb=>?_⟩,fun m Vv=>?_⟩
 ·rw [Qy hb];exact fun z=>hm (z ▸ ha)
 ·rcases Qw Vv with z | z
  ·exact h.sub m z
  ·rw [Qy z]; exact hn
def C3 (K:Qn) (n:Nat):Sp:=fun vs H Q _=>∃ (d e:Addr) (u:V) (b:Bk) (ρ:Str->Lad) (ns ms:List Str) (lv:Str->Nat) (g:Gr) (C:Int) (c:Nat),vs=[.ref d,.ref e,u]/\vR K H d b/\d ≠ e/\LawR b ρ ns lv/\Memo K H e ρ ns ms/\(GA K H u g/\g.Ok C/\Gr.fX b ρ ns g/\g.deep<=16/\g.parts<=900)/\(∀ x ∈ g.within,lv x.1.1 < c)/\20*c+g.deep < n /\
 ∀ (x:V) (H':Hp) (LY:List Str),SB [e] H H'->Memo K H' e ρ ns LY->(∀ m ∈ LY,m ∈ ms\/lv m < c)->LA K H' x (Gr.rk b ρ g)->Q x H'
def PQ (K:Qn) (n:Nat):Sp:=fun vs H Q _=>∃ (d e:Addr) (k:Str) (b:Bk) (ρ:Str->Lad) (ns ms:List Str) (lv:Str->Nat),vs=[.ref d,.ref e,.str k]/\vR K H d b/\d ≠ e/\LawR b ρ ns lv/\Memo K H e ρ ns ms/\k ∈ ns/\20*lv k+18 < n /\
 ∀ (x:V) (H':Hp) (LY:List Str),SB [e] H H'->Memo K H' e ρ ns LY->(∀ m ∈ LY,m ∈ ms\/lv m<=lv k)->LA K H' x (ρ k)->Q x H'
theorem zcy {w:World} {K:Qn} {fd:FuncData} {ps:List Str}:FnOk P w K mg base CX0 k f fd ps (C3 K 0):=vW fun vs H Q E ⟨_,_,_,_,_,_,_,_,_,_,_,_,_,_,_,_,_,_,h,_⟩=>by omega
theorem zco {w:World} {K:Qn} {fd:FuncData} {ps:List Str}:FnOk P w K mg base CX0 k f fd ps (PQ K 0):=vW fun vs H Q E ⟨_,_,_,_,_,_,_,_,_,_,_,_,_,_,h,_⟩=>by omega
def Iy (K:Qn) (n:Nat):Sp:=fun vs H Q _=>∃ (d a:Addr) (u:V) (b:Bk) (g:Gr) (pl:Pl) (k:Str) (kd:Kd) (i:Nat) (r:Ru) (m C:Int),vs=[.ref d,u,.ref a,.int (i:Nat),.int m]/\vR K H d b/\(b.Ok/\Gr.Named b.names g)/\(GA K H u g/\g.Ok C/\g.deep<=14/\g.parts<=400)/\SqT K H a (pl.map fun n:Nat=>V.int (n:Int))/\Gr.bareAt g pl=some k/\b.get k=some kd/\(mj::kd.rs)[i]?=some r/\0<=m/\m < 2 ^ 2000/\pl.length < n /\
 ∀ (x:V) (H':Hp),SB [] H H'->GA K H' x (Gr.stk b m (Gr.gH r m) pl g).1->Q x H'
def IB (K:Qn) (n:Nat):Sp:=fun vs H Q _=>∃ (p cl:Addr) (v:V) (l:Lad) (t:Nat) (B:Int),vs=[.ref p,v,.int (t:Int)]/\bR H p cl/\LA K H v l/\l ≠ .nil/\l.deep < n/\l.deep<=30/\(l.Ok B/\10 ^ 9 < B/\B<=2 ^ 2000)/\t<=3/\l.iu+t<=1000000/\∀ (x:V) (k:Lad) (H':Hp),SB [p] H H'->bR H' p cl->LA K H' x k->k.deep<=l.deep->k.iu<=l.iu+t->k.Ok B->k.lt l=true->Q x H'
def EN (K:Qn) (n:Nat):Sp:=fun vs H Q _=>∃ (v:V) (l:Lad),vs=[v]/\LA K H v l/\l.deep < n/\l.deep<=32/\∀ (d:Addr) (m:Int) (H':Hp),SB [] H H'->H d=none->H' d=some (.lst [.int (l.parts:Nat),.int (l.deep:Nat),.int m])->Q (.ref d) H'
def Zr (K:Qn):Sp:=fun vs H Q _=>∃ (p cl:Addr) (v:V) (l:Lad) (B:Int),vs=[.ref p,v]/\bR H p cl/\LA K H v l/\l ≠ .nil/\l.deep<=29/\l.iu<=900000/\(l.Ok B/\10 ^ 9 < B/\B<=2 ^ 2000)/\∀ (x:V) (k:Lad) (H':Hp),SB [p] H H'->bR H' p cl->LA K H' x k->k.deep<=12->k.parts<=60->k.Ok B->k.lt l=true->Q x H'
def ZG (K:Qn):Sp:=fun vs H Q _=>∃ (d p:Addr) (u y:V) (b:Bk) (ρ:Str->Lad) (ns:List Str) (lv:Str->Nat) (g:Gr) (t:Lad) (pl:Pl) (i:Nat) (r:Ru) (m C:Int),vs=[.ref d,u,.ref p,y]/\vR K H d b/\b.Ok/\LawR b ρ ns lv/\(GA K H u g/\g.Ok C/\1<=C/\C<=2 ^ 2000/\Gr.Named ns g/\g.deep<=12/\g.parts<=60)/\(LA K H y t/\t.deep<=30)/\P1 K H p pl i m/\Gr.Reach b ρ g t pl i r m/\m < 2 ^ 2000 /\
 ((Gr.fX b ρ ns (Gr.stk b m (Gr.gH r m) pl g).1/\LFitL (Gr.rk b ρ (Gr.stk b m (Gr.gH r m) pl g).1))/\Gr.fX b ρ ns g/\LFitL (Gr.rk b ρ g))/\∀ H',SB [] H H'->Q (.bl true) H'
theorem qa.rev (nd:b.names.Nodup):qa b b.reverse:=fun n=>by
 have nr:(Bk.names b.reverse).Nodup:=by
  show (b.reverse.map _).Nodup;rw [List.map_reverse]; exact (List.reverse_perm _).nodup_iff.mpr nd
 cases e:b.get n with
 | some k =>
  obtain ⟨km,kn⟩:=Bk.get_some e;have:=Bk.gI nr (List.mem_reverse.mpr km);rw [kn] at this;exact this.symm
 | none =>
  cases e2:Bk.get b.reverse n with
  | none=>rfl
  | some k =>
   obtain ⟨km,kn⟩:=Bk.get_some e2;exact absurd (Ku ⟨k,List.mem_reverse.mp km,kn⟩) (Bk.get_none e)
structure Made (c:Bk) (lv:Str->Nat):Prop where
 ok:c.Ok
 ends:∀ n ∈ c.names,EndK c n
 own:OwnR c (cg c)
 R:∀ n ∈ c.names,EndK c n->Lad.R (cg c n)/\cg c n ≠ .nil
 tQ:∀ n ∈ c.names,cg c n ≠ .nil/\(cg c n).parts<=242/\(cg c n).deep<=14/\(cg c n).Ok (2 ^ 394)
 Fx:LawR c (cg c) c.names lv
namespace Gr
variable {b:Bk} {ρ:Str->Lad} {ns:List Str}
theorem y8 {x:Nat} (hk:∀ n ∈ ns,(ρ n).Ok (2 ^ x)) {g:Gr} (hn:Named ns g) (ho:g.Ok (2 ^ 2100)):(rk b ρ g).Ok (2 ^ (x+2102*g.parts)):=by
 obtain ⟨n1,n2⟩:=j6 (b:=b) hk hn ho;exact Lad.ee n1 (by have:=hO (x+2102*g.parts); omega) (Kw _) n2
theorem y6 {x:Nat} (hk:∀ n ∈ ns,(ρ n).Ok (2 ^ x)) {g:Gr} (hn:Named ns g) (ho:g.Ok (2 ^ 119)):(rk b ρ g).Ok (2 ^ (x+121*g.parts)):=by
 obtain ⟨n1,n2⟩:=j5 (b:=b) hk hn ho;exact Lad.ee n1 (by have:=hO (x+121*g.parts); omega) (Kw _) n2
theorem qL {P D:Nat} (hk:∀ n ∈ ns,(ρ n).parts<=P/\(ρ n).deep<=D) {g:Gr} (hn:Named ns g):(rk b ρ g).parts<=P*g.parts/\(rk b ρ g).deep<=D+g.deep:=by
 obtain ⟨s1,s2⟩:=d4 (b:=b) hk hn;exact ⟨Yb (Lad.cV _) s1,Lad.dP s2⟩
theorem nK {g:Gr} {x:Tr × Int} (hn:Named ns g) (hx:x ∈ g.within):x.1.1 ∈ ns/\Named ns x.1.2/\x.1.2.parts<=g.parts/\x.1.2.deep<=g.deep:=by
 induction g with
 | nil=>cases hx
 | cons k g m r ih1 ih2 =>
  have h1:Named ns g:=fun y hy=>hn y (bI _ (gR _ hy));have h2:Named ns r:=fun y hy=>hn y (bI _ (jr _ hy));have e1:(Gr.cons k g m r).parts=1+g.parts+r.parts:=rfl;have e2:(Gr.cons k g m r).deep=max (1+g.deep) r.deep:=rfl;rcases Qv hx with rfl | hx
  ·exact ⟨hn _ (bw ..),h1,by show g.parts<=_; omega,by show g.deep<=_; omega⟩
  ·rcases Qw hx with hx | hx
   ·obtain ⟨a,b,c,d⟩:=ih1 h1 hx; exact ⟨a,b,by omega,by omega⟩
   ·obtain ⟨a,b,c,d⟩:=ih2 h2 hx; exact ⟨a,b,by omega,by omega⟩
end Gr
theorem LFitL.of {l:Lad} {x:Nat} (hd:l.deep<=30) (hp:l.parts<=900000) (ho:l.Ok (2 ^ x)) (hx:x<=400000):LFitL l:=⟨hd,hp,fun p h=>by
 have:=(Lad.aV.mp ho).1 p h;exact ⟨by omega,Int.lt_of_lt_of_le this.2.2 (jm hx)⟩⟩
theorem LFitW.of {l:Lad} {x:Nat} (hd:l.deep<=29) (hp:l.parts<=900000) (ho:l.Ok (2 ^ x)) (hx:x<=2000):LFitW l:=⟨hd,hp,fun p h=>by
 have:=(Lad.aV.mp ho).1 p h;exact ⟨by omega,Int.lt_of_lt_of_le this.2.2 (jm hx)⟩⟩
theorem Drawn.made {c:Bk} {m:Nat} (h:Drawn b m) (hm:m<=5) (hc:c=b\/c=b.reverse):qa b c/\(∀ n,n ∈ c.names ↔ n ∈ b.names)/\∃ lv,Made c lv:=by
 have same:qa b c:=by
  rcases hc with rfl | rfl
  ·exact fun _=>rfl
  ·exact qa.rev h.ok.nd
 have mem:∀ k,k ∈ c ↔ k ∈ b:=fun k=>by
  rcases hc with rfl | rfl
  ·exact Iff.rfl
  ·exact List.mem_reverse
 have A7:∀ n,n ∈ c.names ↔ n ∈ b.names:=fun n=>by
  constructor
  ·intro z;obtain ⟨k,hk,e⟩:=Qx z;exact Ku ⟨k,(mem k).mp hk,e⟩
  ·intro z;obtain ⟨k,hk,e⟩:=Qx z;exact Ku ⟨k,(mem k).mpr hk,e⟩
 have len:c.length=b.length:=by
  rcases hc with rfl | rfl
  ·rfl
  ·exact List.length_reverse ..
 have ok:c.Ok:=by
  refine ⟨by have:=h.ok.pos; omega,by have:=h.ok.len; omega,?_,fun k hk=>?_⟩
  ·rcases hc with rfl | rfl
   ·exact h.ok.nd
   ·show (b.reverse.map _).Nodup;rw [List.map_reverse]; exact (List.reverse_perm _).nodup_iff.mpr h.ok.nd
  ·obtain ⟨a1,a2,a3⟩:=h.ok.kd k ((mem k).mp hk);exact ⟨a1,a2,fun r hr=>⟨(a3 r hr).1,fun p hp=>(A7 _).mpr ((a3 r hr).2 p hp)⟩⟩
 let lv:Str->Nat:=fun n=>b.names.idxOf n
 have b5:b.length<=5:=by have:=h.len; omega
 have lvl:∀ n ∈ c.names,lv n < b.length:=fun n hn=>by
  have:=List.idxOf_lt_length_of_mem ((A7 n).mp hn);rw [Ye] at this;exact this
 have kat:∀ n ∈ c.names,∀ kd,c.get n=some kd->b[lv n]?=some kd:=fun n hn kd e=>by
  have zJ:=(A7 n).mp hn;have h1:=List.getElem_idxOf (List.idxOf_lt_length_of_mem zJ);have hl:lv n < b.length:=lvl n hn;rw [List.getElem_map] at h1;have h2:b.get n=some kd:=(same n).trans e;have h3:=Bk.gI h.ok.nd (List.getElem_mem (l:=b) hl);rw [show (b[lv n]).n=n from h1,h2] at h3;rw [Kp hl];exact h3.symm
 have down:∀ n ∈ c.names,∀ kd,c.get n=some kd->∀ r ∈ kd.rs,∀ x ∈ Ru.within r,lv x.1.1 < lv n:=fun n hn kd e r hr x hx=>by
  have h1:=h.ahead (lv n) kd (kat n hn kd e) r hr x hx;rw [Bk.names,List.map_take] at h1;obtain ⟨j,hj,ej⟩:=List.getElem_of_mem h1;rw [Kx] at hj;rw [List.getElem_take] at ej;have h2:lv x.1.1<=j:=by
   rcases Nat.lt_or_ge j (lv x.1.1) with z | z
   ·have:=List.not_of_lt_findIdx (p:=fun y=>y == x.1.1) (xs:=b.names) (i:=j) z;exact absurd (by simpa using ej) (by simpa using this)
   ·exact z
  omega
 have ends:∀ n ∈ c.names,EndK c n:=by
  have main:∀ (j:Nat) (n:Str),n ∈ c.names->lv n < j->EndK c n:=by
   intro j
   induction j with
   | zero=>intro n _ h; omega
   | succ j ih =>
    intro n hn hj;obtain ⟨kd,eg⟩:=Bk.d8 hn;obtain ⟨km,kn⟩:=Bk.get_some eg;subst kn;refine .mk fun m hm=>?_;rw [C9 ok km] at hm;obtain ⟨r,hr,hm⟩:=List.mem_flatMap.mp hm;obtain ⟨x,hx,rfl⟩:=Qx hm;have h1:=down _ hn kd eg r hr x hx;exact ih _ (((ok.kd kd km).2.2 r hr).2 x hx) (by omega)
  exact fun n hn=>main _ n hn (Nat.lt_succ_self _)
 have b1:=h.ok.pos;have hb:c.length=1\/c.length=2\/c.length=3\/c.length=4\/c.length=5:=by omega
 have e9:(1000000001:Int)<=2 ^ 30:=by decide
 obtain ⟨o1,o2⟩:=zbe ok (m:=3) (fun k hk he r hr=>⟨(ok.named hk hr).1.1.mono e9,(ok.named hk hr).1.2.1.mono e9,h.few k ((mem k).mp hk) r hr⟩) (by rcases hb with e | e | e | e | e <;> rw [e] <;> decide) (by rcases hb with e | e | e | e | e <;> rw [e] <;> decide) (by rcases hb with e | e | e | e | e <;> rw [e] <;> decide);have R:∀ n ∈ c.names,EndK c n->Lad.R (cg c n)/\cg c n ≠ .nil:=fun n hn he=>zf4 ok he hn;have tQ:∀ n ∈ c.names,cg c n ≠ .nil/\(cg c n).parts<=242/\(cg c n).deep<=14/\(cg c n).Ok (2 ^ 394):=fun n hn=>by
  have z:=o2 n hn (ends n hn);refine ⟨z.ne,Yb z.parts ?_,Yb z.deep ?_,z.ok.mono (jm ?_)⟩
  ·rcases hb with e | e | e | e | e <;> rw [e] <;> decide
  ·rcases hb with e | e | e | e | e <;> rw [e] <;> decide
  ·rcases hb with e | e | e | e | e <;> rw [e] <;> decide
 have sm:∀ n ∈ c.names,(cg c n).parts<=242/\(cg c n).deep<=14:=fun n hn=>⟨(tQ n hn).2.1,(tQ n hn).2.2.1⟩;have nu:∀ n ∈ c.names,(cg c n).Ok (2 ^ 394):=fun n hn=>(tQ n hn).2.2.2;have g30:∀ {g:Gr},g.Ok 1000000001->Gr.Named c.names g->g.parts<=4->Gr.fX c (cg c) c.names g/\LFitL (Gr.rk c (cg c) g):=fun {g} ho hn hp=>by
  have hd:=oL g;have RA:g.Ok (2 ^ 2100):=ho.mono (Int.le_trans e9 (jm (by decide)));have z:=Gr.qL (b:=c) sm hn;exact ⟨Gr.j7 (fun n hn=>⟨hn,tQ n hn⟩) (by decide) hn RA (by omega) (by omega) (by omega),LFitL.of (by omega) (by omega) (Gr.y8 nu hn RA) (by omega)⟩
 refine ⟨same,A7,lv,ok,ends,o1,R,tQ,⟨⟨fun n hn=>R n hn (ends n hn),fun n hn kd e r hr=>?_,fun n hn kd e=>?_⟩,?_,fun n hn=>Bk.d8 hn,fun n hn kd e=>?_,fun n hn kd e r hr=>?_,fun n hn=>?_,down,fun n hn=>?_⟩⟩
 ·exact ok.named (Bk.get_some e).1 hr
 ·obtain ⟨km,rfl⟩:=Bk.get_some e;exact QG ok km (ends _ hn)
 ·rw [Ye]; omega
 ·exact (ok.kd kd (Bk.get_some e).1).2.1
 ·obtain ⟨iD,n1,n2⟩:=ok.named (Bk.get_some e).1 hr;have rp:=iD.2.2;exact ⟨g30 iD.1 n1 (by omega),g30 iD.2.1 n2 (by omega)⟩
 ·exact LFitL.of (Yb (tQ n hn).2.2.1 (by decide)) (Yb (tQ n hn).2.1 (by decide)) (nu n hn) (by decide)
 ·have:=lvl n hn; omega
namespace Made
variable {c:Bk} {lv:Str->Nat}
structure Grv (c:Bk) (g:Gr):Prop where
 Ow:Gr.fX c (cg c) c.names g
 lfL:LFitL (Gr.rk c (cg c) g)
 WQ:∀ ns,(∀ n ∈ c.names,EndK c n->n ∈ ns)->Gr.cW c (cg c) ns g
 lfW:LFitW (Gr.rk c (cg c) g)
 bd:Gr.Bd c (cg c) 4000 (2 ^ 1900) g
 ok:(Gr.rk c (cg c) g).Ok (2 ^ 1900)
 parts:(Gr.rk c (cg c) g).parts<=4000
 deep:(Gr.rk c (cg c) g).deep<=26
theorem grv (M:Made c lv) {g:Gr} (ho:g.Ok (2 ^ 119)) (hn:Gr.Named c.names g) (hp:g.parts<=12) (hd:g.deep<=12):Grv c g:=by
 have sm:∀ n ∈ c.names,(cg c n).parts<=242/\(cg c n).deep<=14:=fun n hn=>⟨(M.tQ n hn).2.1,(M.tQ n hn).2.2.1⟩;have nu:∀ n ∈ c.names,(cg c n).Ok (2 ^ 394):=fun n hn=>(M.tQ n hn).2.2.2;have RA:g.Ok (2 ^ 2100):=ho.mono (jm (by decide));obtain ⟨z1,z2⟩:=Gr.qL (b:=c) sm hn;have oX:=Gr.y6 (b:=c) nu hn ho;have zp:242*g.parts<=242*12:=Nat.mul_le_mul_left _ hp;refine ⟨Gr.j7 (fun n hn=>⟨hn,M.tQ n hn⟩) (by decide) hn RA (by omega) (by omega) (by omega),LFitL.of (by omega) (by omega) oX (by omega),fun ns hs=>Gr.cW.mono (fun n hn=>hs n hn (M.ends n hn)) (Gr.nq (ns:=c.names) (fun n hn=>⟨hn,M.tQ n hn⟩) (by decide) hn ho (by omega) (by omega) (by omega)),LFitW.of (by omega) (by omega) oX (by omega),fun x hx=>?_,oX.mono (jm (by omega)),by omega,by omega⟩;obtain ⟨a1,a2,a3,a4⟩:=Gr.nK hn hx;have xo:=(Lc ho x hx).2.1;obtain ⟨y1,y2⟩:=Gr.qL (b:=c) sm a2;have yX:=Gr.y6 (b:=c) nu a2 xo;have lp:=Lad.gG (c.wide x.1.1) (cg c x.1.1) (Gr.rk c (cg c) x.1.2);have lo:=Lad.iI (w:=c.wide x.1.1) (nu _ a1) yX (hO _) (hO _);have yp:242*x.1.2.parts<=242*12:=Nat.mul_le_mul_left _ (by omega);have q1:=(sm _ a1).1;refine ⟨by show (dJ _ _ _).parts<=4000; omega,lo.mono ?_⟩;have m1:=jm (show 394<=1899 by decide);have m2:=jm (show 394+121*x.1.2.parts<=1899 by omega);have m3:=yd 1899;omega
theorem WU (M:Made c lv) {g:Gr} (ho:g.Ok (2 ^ 119)) (hn:Gr.Named c.names g) (hp:g.parts<=12) (hd:g.deep<=9) {pl:Pl} {k:Str} {kd:Kd} (hb:Gr.bareAt g pl=some k) (eg:c.get k=some kd) {r:Ru} (hr:r ∈ mj::kd.rs) {m:Int} (m0:0<=m) (mB:m < 2 ^ 2000) :
  Gr.fX c (cg c) c.names (Gr.stk c m (Gr.gH r m) pl g).1/\LFitL (Gr.rk c (cg c) (Gr.stk c m (Gr.gH r m) pl g).1):=by
 have sm:∀ n ∈ c.names,(cg c n).parts<=242/\(cg c n).deep<=14:=fun n hn=>⟨(M.tQ n hn).2.1,(M.tQ n hn).2.2.1⟩;have nu:∀ n ∈ c.names,(cg c n).Ok (2 ^ 394):=fun n hn=>(M.tQ n hn).2.2.2;have US:k ∈ c.names:=Gr.dM hn hb;obtain ⟨iD,LB,Lz⟩:=Gr.iC M.Fx.toGoods US eg hr;have go2:=Gr.oz iD m0;have hF:=Int.mul_nonneg (show (0:Int)<=1000000001 by omega) m0;have io:=Gr.lg (b:=c) m0 (by omega) go2 ho hb;have B4:=Gr.j0 (b:=c) (n:=m) (fr:=Gr.gH r m) hb;have ipp:=Gr.la (b:=c) (n:=m) (fr:=Gr.gH r m) hb;have Uz:=Gr.iN hb;have gd2:=Gr.oA iD m;have gp2:=Gr.lP iD m;have UY:pl.length*(g.parts+1)<=9*13:=Nat.mul_le_mul (by omega) (by omega);have WI:Gr.Named c.names (Gr.gH r m):=Gr.pW (fun x hx=>by
  rcases Qw hx with hx | hx
  ·exact LB x hx
  ·exact Lz x hx) m
 have L9:=Gr.fA (b:=c) (n:=m) WI hb hn;have io2:(Gr.stk c m (Gr.gH r m) pl g).1.Ok (2 ^ 2100):=io.mono (by
  have e1:(2:Int) ^ 2100=2 ^ 100*2 ^ 2000:=by decide +kernel
  have e2:(2:Int) ^ 100=1267650600228229401496703205376:=by decide +kernel
  rw [e1,e2];have h1:(2:Int) ^ 119<=2 ^ 2000:=by decide +kernel
  have h2:(2:Int) ^ 31<=2 ^ 2000:=by decide +kernel
  have e31:(2:Int) ^ 31=2147483648:=by decide
  omega)
 obtain ⟨z1,z2⟩:=Gr.qL (b:=c) sm L9;have oV:=Gr.y8 (b:=c) nu L9 io2;have zp:242*(Gr.stk c m (Gr.gH r m) pl g).1.parts<=242*121:=Nat.mul_le_mul_left _ (by omega);exact ⟨Gr.j7 (fun n hn=>⟨hn,M.tQ n hn⟩) (by decide) L9 io2 (by omega) (by omega) (by omega),LFitL.of (by omega) (by omega) oV (by omega)⟩
end Made
namespace Gr
theorem lU (h:∀ p ∈ bs,p.1.1 ∈ ns/\Named ns p.1.2):Named ns (tidy bs):=aJ.mpr fun p hp=>by
 have hp:p ∈ rR aO bs:=by rw [<- aK (rR aO bs)]; exact hp
 obtain ⟨q,hq,e⟩:=IE (enc:=aO) _ p hp;rw [<- e];exact h q hq
end Gr
theorem hJ.Uy {K:Qn} {C:Addr} {H H':Hp} (h:hJ K C H v b) (hp:bR H p c) (s:SB [p] H H'):hJ K C H' v b:=by
 obtain ⟨a,dx,d1,d2,us,rfl,h1,h2,h3,h4⟩:=h;obtain ⟨ns,at_,l,sd,a1,a2,a3⟩:=hp;have n1:a ≠ p:=fun z=>by rw [z,a1] at h1; cases h1
 have n2:d1 ≠ p:=fun z=>by
  rw [z,a1] at h2;have e:gE c at_ l sd=b.mZ:=by injection (Yd h2)
  have e2:=congrArg (fun x=>x[0]?) e;cases b with
  | nil=>cases e2
  | cons k r =>
   have e3:some ((Sum.inr "cells":Key),V.ref c)=some ((Sum.inr k.n:Key),V.bl k.w):=e2
   injection e3 with e3
   injection e3 with e4 e5
   cases e5
 have n3:d2 ≠ p:=fun z=>by
  rw [z,a1] at h3;have e:gE c at_ l sd=b.jo us:=by injection (Yd h3)
  cases h4 with
  | nil=>cases e
  | cons x1 r1 =>
   cases r1 with
   | nil =>
    have e2:=congrArg (fun x=>x[1]?) e;have e3:some ((Sum.inr wQ:Key),V.int at_)=none:=e2;cases e3
   | cons x2 r2 =>
    have e2:=congrArg (fun x=>x[1]?) e;have e3:some ((Sum.inr wQ:Key),V.int at_)=some (_,_):=e2
    injection e3 with e3
    injection e3 with e4 e5
    rw [<- e5] at x2;cases x2
 exact ⟨a,dx,d1,d2,us,Ja,s.keep _ _ h1 (by simpa using n1),s.keep _ _ h2 (by simpa using n2),s.keep _ _ h3 (by simpa using n3),h4.sb s Kd.eT⟩
def cy (b c:Bk) (ns:List Str):Prop:=∀ n ∈ ns,b.get n=c.get n
theorem cy.wide {b c:Bk} {ns:List Str} (h:cy b c ns) {n:Str} (hn:n ∈ ns):b.wide n=c.wide n:=by
 unfold Bk.wide; rw [h n hn]
theorem cy.far {b c:Bk} {ns:List Str} (h:cy b c ns) {n:Str} (hn:n ∈ ns) (m:Int):b.far n m=c.far n m:=by
 unfold Bk.far; rw [h n hn]
theorem cy.adj {b c:Bk} {ns:List Str} (h:cy b c ns) {n:Str} (hn:n ∈ ns):FT.adj b n=FT.adj c n:=by
 unfold FT.adj; rw [h n hn]
namespace Gr
variable {b c:Bk} {ρ:Str->Lad} {ns:List Str}
theorem iH {k:Str} {g r:Gr} (h:Named ns (.cons k g m r)):k ∈ ns/\Named ns g/\Named ns r :=
 ⟨h ((k,g),m) (bw ..),fun x hx=>h x (bI _ (gR _ hx)),fun x hx=>h x (bI _ (jr _ hx))⟩
theorem nv (h:cy b c ns):∀ {g:Gr},Named ns g->rkT b ρ g=rkT c ρ g
 | .nil,_=>rfl
 | .cons k g m r,hn=>by
  obtain ⟨h1,h2,h3⟩:=iH hn;rw [rkT,rkT,h.wide h1,nv h h2,nv h h3]
theorem iE (h:cy b c ns) {g:Gr} (hn:Named ns g):rk b ρ g=rk c ρ g:=by unfold rk; rw [nv h hn]
theorem vb (h:cy b c ns) {t:Tr} (h1:t.1 ∈ ns) (hn:Named ns t.2):du b ρ t=du c ρ t:=by unfold du; rw [h.wide h1,iE h hn]
theorem Af (h:cy b c ns) {r:Ru} (h1:Named ns r.1) (h2:Named ns r.2):fh b ρ r=fh c ρ r:=by unfold fh; rw [iE h h1,iE h h2]
theorem rP.on {ms:List Str} (h:cy b c ns) (hs:∀ n ∈ ns,n ∈ b.names->n ∈ c.names):∀ {g:Gr},Named ns g->rP b ρ ms g->rP c ρ ms g
 | .nil,_,_=>trivial
 | .cons k g m r,hn,⟨⟨h1,h2,h3,h4,h5,h6,h7,h8,h9⟩,hg,hr⟩=>by
  obtain ⟨n1,n2,n3⟩:=iH hn;refine ⟨⟨h1,hs _ n1 h2,h3,h4,by rw [<- iE h n2]; exact h5,by rw [<- vb h (t:=(k,g)) n1 n2]; exact h6,h7,h8,by rw [<- nv h hn]; exact h9⟩,rP.on h hs n2 hg,rP.on h hs n3 hr⟩
theorem cW.on {ms:List Str} (h:cy b c ns) (hs:∀ n ∈ ns,n ∈ b.names->n ∈ c.names):∀ {g:Gr},Named ns g->cW b ρ ms g->cW c ρ ms g
 | .nil,_,_=>trivial
 | .cons k g m r,hn,⟨⟨h1,h2,h3,h4,h5,h6,h7,h8,h9⟩,hg,hr⟩=>by
  obtain ⟨n1,n2,n3⟩:=iH hn;refine ⟨⟨h1,hs _ n1 h2,h3,h4,by rw [<- iE h n2]; exact h5,by rw [<- vb h (t:=(k,g)) n1 n2]; exact h6,h7,h8,by rw [<- nv h hn]; exact h9⟩,cW.on h hs n2 hg,cW.on h hs n3 hr⟩
theorem Bd.on {P:Nat} {g:Gr} (h:cy b c ns) (hn:Named ns g) (hb:Bd b ρ P B g):Bd c ρ P B g:=fun x hx=>by
 obtain ⟨h1,h2,_⟩:=nK hn hx;rw [<- vb h h1 h2];exact hb x hx
theorem yK {n:Int} {fr:Gr} (h:cy b c ns):∀ {pl:Pl} {g:Gr},Named ns g->stk b n fr pl g=stk c n fr pl g
 | [],g,_=>rfl
 | i::r,g,hn=>by
  rw [stk,stk];cases e:g.ps[i]? with
  | none=>rfl
  | some p =>
   obtain ⟨h1,h2⟩:=aJ.mp hn p (Qu e);show (if r=[] then _ else _)=(if r=[] then _ else _);by_cases hr:r=[]
   ·rw [if_pos hr,if_pos hr]
   ·rw [if_neg hr,if_neg hr,yK h h2,h.far h1]
theorem Reach.on {g:Gr} {t:Lad} {pl:Pl} {n:Int} (h:cy b c ns) (hn:Named ns g) (hl:∀ k ∈ ns,∀ kd,b.get k=some kd->∀ r ∈ mj::kd.rs,Named ns r.1/\Named ns r.2) (hr:Reach b ρ g t pl i r n):Reach c ρ g t pl i r n:=by
 obtain ⟨h0,k,kd,hk,ek,er,h1⟩:=hr;have kn:=dM hn hk;refine ⟨h0,k,kd,hk,by rw [<- h k kn]; exact ek,er,fun n' zJ=>?_⟩;have h2:=h1 n' zJ;obtain ⟨r1,r2⟩:=hl k kn kd ek r (Qu er);rw [yK h hn,iE h] at h2
 ·exact h2
 ·exact fA (eM r1 (i4 r2 n')) hk hn
end Gr
theorem cy.symm {b c:Bk} {ns:List Str} (h:cy b c ns):cy c b ns:=fun n hn=>(h n hn).symm
theorem zeo {c:Bk} {k:Kd} (hk:k.n ∉ c.names):cy c (c++[k]) c.names:=fun n hn=>by
 obtain ⟨kd,e⟩:=Bk.d8 hn;rw [e];unfold Bk.get at e ⊢;rw [List.find?_append,e]; rfl
structure z1h (c:Bk) (k:Kd):Prop where
 new:k.n ∉ c.names
 ok:Bk.Ok (c++[k])
 ring:k.n ∈ nV k.rs
namespace z1h
variable {c:Bk} {k:Kd}
theorem names (h:z1h c k):Bk.names (c++[k])=c.names++[k.n]:=by simp [Bk.names]
theorem sub (h:z1h c k):∀ n ∈ c.names,n ∈ Bk.names (c++[k]):=fun n hn=>by rw [h.names]; exact gR _ hn
theorem same (h:z1h c k):cy c (c++[k]) c.names:=zeo h.new
theorem ends (h:z1h c k) (ok:c.Ok) {n:Str} (he:EndK c n):n ∈ c.names->EndK (c++[k]) n:=by
 induction he with
 | mk h2 ih =>
  rename_i n;intro hn;refine .mk fun m hm=>?_;rw [<- h.same.adj hn] at hm;exact ih m hm (Dc ok hm)
theorem mL (h:z1h c k):¬ EndK (c++[k]) k.n:=fun he=>by
 have hm:k ∈ c++[k]:=by simp
 have ha:=C9 h.ok hm;exact he.vh (.one (by rw [ha]; exact h.ring))
theorem W0 (h:z1h c k) (ok:c.Ok) (he:∀ n ∈ c.names,EndK c n) {n:Str} (hn:n ∈ Bk.names (c++[k])):EndK (c++[k]) n ↔ n ∈ c.names:=by
 constructor
 ·intro z;rw [h.names] at hn;rcases Qw hn with e | e
  ·exact e
  ·rw [Qy e] at z; exact absurd z h.mL
 ·intro z; exact h.ends ok (he n z) z
theorem own (h:z1h c k) (ok:c.Ok) {ρ:Str->Lad} (hE:∀ n ∈ c.names,EndK c n) (ow:OwnR c ρ):OwnR (c++[k]) ρ:=by
 have key:∀ kd ∈ c++[k],EndK (c++[k]) kd.n->kd ∈ c:=fun kd hk he=>by
  rcases Qw hk with e | e
  ·exact e
  ·rw [Qy e] at he; exact absurd he h.mL
 have nm:∀ kd ∈ c,∀ r ∈ kd.rs,Gr.Named c.names r.1/\Gr.Named c.names r.2:=fun kd hk r hr=>(ok.named hk hr).2;have ce:∀ kd ∈ c,EndK c kd.n:=fun kd hk=>hE _ (Ku ⟨kd,hk,rfl⟩);refine ⟨fun kd hk he=>?_,fun kd hk he ns A9 r hr=>?_,fun kd hk he r hr=>?_⟩
 ·have hc:=key kd hk he;rw [ow.own kd hc (ce kd hc)]
  congr 1
  refine List.map_congr_left fun r hr=>?_;obtain ⟨n1,n2⟩:=nm kd hc r hr;exact Gr.Af h.same n1 n2
 ·have hc:=key kd hk he;obtain ⟨n1,n2⟩:=nm kd hc r hr;have hn:kd.n ∈ c.names:=Ku ⟨kd,hc,rfl⟩;obtain ⟨f1,f2,f3,f4,f5,f6⟩:=ow.fit kd hc (ce kd hc) ns (fun n tA=>A9 n (by rw [<- h.same.adj hn]; exact tA)) r hr;refine ⟨f1.on h.same (fun n _ hn=>h.sub n hn) n1,f2.on h.same (fun n _ hn=>h.sub n hn) n2,?_,?_,?_,?_⟩
  ·rw [<- Gr.iE h.same n1]; exact f3
  ·rw [<- Gr.iE h.same n2]; exact f4
  ·rw [<- Gr.iE h.same n1]; exact f5
  ·rw [<- Gr.iE h.same n2]; exact f6
 ·have hc:=key kd hk he;obtain ⟨n1,n2⟩:=nm kd hc r hr;rw [<- Gr.Af h.same n1 n2];exact ow.deep kd hc (ce kd hc) r hr
end z1h
structure LeastOut (P:Str->Prop) (g:Gr) (n:Str):Prop where
 mem:n ∈ g.within.map (·.1.1)
 out:P n
 low:∀ m ∈ g.within.map (·.1.1),P m->¬ m.cps.toList < n.cps.toList
def S5 (K:Qn) (C N:Addr):Sp:=fun vs H Q E=>∃ (v w:V) (b:Bk) (g:Gr) (ns:List Str),vs=[v,w]/\hJ K C H v b/\GA K H w g/\b.length<=60/\g.deep<=68/\g.parts<=3000/\Gr.Named ns g/\ns.length<=60/\(Gr.Named b.names g->∀ H',SB [] H H'->Q .non H') /\
 ∀ n,LeastOut (fun m=>m ∉ b.names) g n->∀ (d:Addr) (H':Hp),SB [] H H'->H d=none->H' d=some (.xd [("kind",.str n)])->E (.ref N) (some d) H'
def Sv (K:Qn) (C N EE:Addr):Sp:=fun vs H Q E=>∃ (v w:V) (b:Bk) (g:Gr),vs=[v,w]/\hJ K C H v b/\b.Ok/\GA K H w g/\g.deep<=68/\g.parts<=3000/\Gr.Named b.names g/\((∀ x ∈ g.within,EndK b x.1.1)->∀ H',SB [] H H'->Q .non H') /\
 ∀ n,LeastOut (fun m=>¬ EndK b m) g n->∀ (d:Addr) (H':Hp),SB [] H H'->H d=none->H' d=some (.xd [("kind",.str n)])->E (.ref EE) (some d) H'
theorem z4v {ss:List Str} (h:sortedS ss=true):∀ (i:Nat),sortedS (ss.drop i)=true
 | 0=>h
 | i+1=>by
  have ih:=z4v h i;cases e:ss.drop i with
  | nil=>rw [List.drop_eq_nil_iff] at e; rw [List.drop_eq_nil_iff.mpr (by omega)]; rfl
  | cons x r =>
   rw [e] at ih;have:ss.drop (i+1)=r:=by rw [<- List.drop_drop,e]; rfl
   rw [this]; exact z8q ih
theorem LeastOut.at {P:Str->Prop} {g:Gr} {ss:List Str} (so:SrtOf ss (g.within.map (·.1.1))) {i:Nat} {n:Str} (en:ss[i]?=some n) (hp:P n) (hb:∀ m ∈ ss.take i,¬ P m):LeastOut P g n:=⟨(so.mem n).mp (Qu en),hp,fun m hm hP=>by
 have hm:=(so.mem m).mpr hm;rw [<- List.take_append_drop i ss] at hm;rcases Qw hm with z | z
 ·exact absurd hP (hb m z)
 ·obtain ⟨hi,e⟩:=Kq en;have hd:=z4v so.srt i;rw [List.drop_eq_getElem_cons hi,e] at z hd;rcases Qv z with z | z
  ·rw [z]; exact List.lt_irrefl _
  ·exact z6k hd m z⟩
def QH (K:Qn) (C N EE NR:Addr):Sp:=fun vs H Q E=>∃ (v z y:V) (b:Bk) (g:Gr) (ns:List Str),vs=[v,z,y]/\hJ K C H v b/\b.Ok/\GA K H z g/\g.deep<=68/\g.parts<=3000/\Gr.Named ns g/\ns.length<=60 /\
 (∀ n,LeastOut (fun m=>m ∉ b.names) g n->∀ (d:Addr) (H':Hp),SB [] H H'->H d=none->H' d=some (.xd [("kind",.str n)])->E (.ref N) (some d) H') /\
 (Gr.Named b.names g->(∀ n,LeastOut (fun m=>¬ EndK b m) g n->∀ (d:Addr) (H':Hp),SB [] H H'->H d=none->H' d=some (.xd [("kind",.str n)])->E (.ref EE) (some d) H') /\
  ((∀ x ∈ g.within,EndK b x.1.1)->∃ (ρ:Str->Lad) (t:Lad) (D F B:Int) (P:Nat),OwnR b ρ/\(∀ n ∈ b.names,EndK b n->Lad.R (ρ n)/\ρ n ≠ .nil)/\(g.deep < 20/\g.parts<=900/\g.Ok F)/\((∀ ns,(∀ n ∈ b.names,EndK b n->n ∈ ns)->Gr.cW b ρ ns g)/\LFitW (Gr.rk b ρ g)/\Gr.Bd b ρ P B g) /\
   (LA K H y t/\t.deep<=29/\(t.lt (Gr.rk b ρ g)=true->t.Ok D/\1<=D/\1<=B/\t.parts+P*g.deep<=900000/\D+B*g.deep<=2 ^ 1990)) /\
   (t.lt (Gr.rk b ρ g)=true->∀ (p:Addr) (H':Hp) (pl:Pl) (i:Nat) (r:Ru) (n:Int),SB [] H H'->P1 K H' p pl i n->Gr.Reach b ρ g t pl i r n->n<=D+B*g.deep->Q (.ref p) H')/\(t.lt (Gr.rk b ρ g)=false->∀ H',SB [] H H'->E (.ref NR) none H')))
def Zg (K:Qn) (C N EE:Addr):Sp:=fun vs H Q E=>∃ (v w:V) (b:Bk) (ρ:Str->Lad) (g:Gr),vs=[v,w]/\hJ K C H v b/\b.Ok/\OwnR b ρ/\GA K H w g/\g.deep < 20/\g.parts<=900/\Gr.Named b.names g/\(∀ x ∈ g.within,EndK b x.1.1)/\(∀ ns,(∀ n ∈ b.names,EndK b n->n ∈ ns)->Gr.cW b ρ ns g)/\∀ (x:V) (H':Hp),SB [] H H'->LA K H' x (Gr.rk b ρ g)->Q x H'
def B3 (v:Value):Bool:=match v with
 | .bool b=>b
 | _=>false
theorem Zm:∀ {us:List Value} {bs:List Bool},Vals (bs.map V.bl) us->us.countP B3=bs.count true/\∀ y ∈ us,∃ b,y=.bool b
 | _,[],h=>by cases h; exact ⟨rfl,fun _ h=>nomatch h⟩
 | _,b::bs,h=>by
  cases h with
  | cons r rs =>
   cases r;obtain ⟨h1,h2⟩:=Zm rs;refine ⟨?_,fun y hy=>?_⟩
   ·rw [List.countP_cons,List.count_cons,h1];cases b <;> rfl
   ·rcases Qv hy with e | e
    ·exact ⟨b,e⟩
    ·exact h2 y e
section
variable {X:Cx}
def Yt (K:Qn):V->List V->Hp->VK->Prop:=fun x xs H Q=>∃ (p:Addr) (bs:List Bool),x=.ref p/\xs=[.bl true]/\SqL K H p (bs.map V.bl)/\Q (.int (bs.count true:Nat)) H
theorem zap:MtR X "list.count" (Yt X.K):=by
 intro pins s σ H x xs v us Q I rx rxs h;obtain ⟨p,bs,rfl,rfl,hs,q⟩:=h;cases rx;obtain ⟨u,rfl,ru⟩:=rxs.one;cases ru;obtain ⟨bV,rv,⟨⟨cls,dd,data,sl⟩,n,ho,hc,hdn,hd⟩,hlen⟩:=I.list hs;simp only at hc hd;subst hc hd;obtain ⟨h1,h2⟩:=Zm rv;refine call_meets PySem.F.slot_list_count ⟨_,ho,Ja⟩ PySem.F.entry_list_count (PySem.F.args_list_count_2 _ _)
  (SeqAt.list_countAt p bV.toArray n dd sl (.bool true) B3) ⟨ho,fun y hy=>?_,?_⟩
 ·obtain ⟨b,rfl⟩:=h2 y (by simpa using hy);have:=PySem.SeqAt.EqAt.bool_bool (s:=s) (A:=X.A.in1) b true;cases b <;> exact this
 have ec:bV.toArray.toList.countP B3=bs.count true:=h1;refine ⟨.int (bs.count true:Nat),H,I.tok _,⟨s.toks,?_⟩,q⟩;show Value.int ((bV.toArray.toList.countP B3:Nat):Int) s.toks=Value.int ((bs.count true:Nat):Int) s.toks;rw [ec]
end
def AV (K:Qn) (C:Addr):Sp:=fun vs H Q _=>∃ (v z y:V) (b:Bk) (g:Gr) (ns:List Str),vs=[v,z,y]/\hJ K C H v b/\b.Ok/\GA K H z g/\g.deep<=68/\g.parts<=3000/\Gr.Named ns g/\ns.length<=60 /\
 (∀ n,LeastOut (fun m=>m ∉ b.names) g n->∀ (T:Addr) (H':Hp),SB [] H H'->SqT K H' T [.str "kind",.str n]->Q (.ref T) H') /\
 (Gr.Named b.names g->(∀ n,LeastOut (fun m=>¬ EndK b m) g n->∀ (T:Addr) (H':Hp),SB [] H H'->SqT K H' T [.str "endless",.str n]->Q (.ref T) H') /\
  ((∀ x ∈ g.within,EndK b x.1.1)->∃ (ρ:Str->Lad) (t:Lad) (F B:Int) (P:Nat),OwnR b ρ/\(∀ n ∈ b.names,EndK b n->Lad.R (ρ n)/\ρ n ≠ .nil)/\(g.deep < 20/\g.parts<=900/\g.Ok F)/\((∀ ns,(∀ n ∈ b.names,EndK b n->n ∈ ns)->Gr.cW b ρ ns g)/\LFitW (Gr.rk b ρ g)/\Gr.Bd b ρ P B g) /\
   (LA K H y t/\t.deep<=29/\t.lt (Gr.rk b ρ g)=false)/\∀ (T:Addr) (H':Hp),SB [] H H'->SqT K H' T [.str "reach",.int 1]->Q (.ref T) H'))
def Iq (K:Qn) (n:Nat):Sp:=fun vs H Q _=>∃ (p cl:Addr) (m:Nat),vs=[.ref p,.int (m:Int)]/\bR H p cl/\m < n/\m<=12/\∀ (v:V) (l:Lad) (H':Hp),SB [p] H H'->bR H' p cl->LA K H' v l->l.parts<=m->l.deep<=m->l.Ok ((m:Int)*(10 ^ 30+1)+1)->Q v H'
def kH:List Str:=["a","b","c","d","e","f","g","h","i","j"]
theorem Zp:∀ {L:List Str},L.Nodup->∀ x,L.count x<=1
 | [],_,_=>by simp
 | y::r,h,x=>by
  obtain ⟨h1,h2⟩:=List.nodup_cons.mp h;rw [List.count_cons]
  split
  ·rename_i e;have e:y=x:=by simpa using e
   rw [List.count_eq_zero.mpr (e ▸ h1)]; omega
  ·have:=Zp h2 x; omega
theorem Zt:∀ (ns:List Str) {L:List Str},L.Nodup->L.length<=(L.filter fun n=>decide (n ∉ ns)).length+ns.length
 | [],L,_=>by
  have:(L.filter fun n=>decide (n ∉ ([]:List Str)))=L:=List.filter_eq_self.mpr fun n _=>by simp
  rw [this]; omega
 | x::r,L,nd=>by
  have ih:=Zt r (L:=L.filter fun n=>decide (n ≠ x)) (nd.filter _);rw [List.filter_filter] at ih;have e:(L.filter fun n=>decide (n ∉ r)&&decide (n ≠ x))=L.filter fun n=>decide (n ∉ x::r):=List.filter_congr fun n _=>by
   by_cases h1:n ∈ r <;> by_cases h2:n=x <;> simp [h1,h2]
  rw [e] at ih;have h1:L.length<=(L.filter fun n=>decide (n ≠ x)).length+1:=by
   have h2:=List.length_eq_countP_add_countP (fun n=>decide (n ≠ x)) (l:=L);have h3:L.countP (fun n=>decide ¬decide (n ≠ x)=true)<=1:=by
    rw [show L.countP (fun n=>decide ¬decide (n ≠ x)=true)=L.count x from List.countP_congr fun n _=>by simp];exact Zp nd x
   rw [List.countP_eq_length_filter] at h2;omega
  rw [Yk];omega
theorem wL:kH.Nodup:=by decide +kernel
theorem Sl:∀ n ∈ kH,dN n:=by
 intro n hn;simp only [kH,List.mem_cons,aL,or_false] at hn;rcases hn with rfl | rfl | rfl | rfl | rfl | rfl | rfl | rfl | rfl | rfl <;> exact ⟨by decide +kernel,by decide +kernel,by decide +kernel⟩
theorem Ar:kH.Pairwise fun m n=>m.cps.toList < n.cps.toList:=by decide +kernel
structure zf0 (ns ss:List Str):Prop where
 mem:∀ n,n ∈ ss ↔ n ∈ kH/\n ∉ ns
 nd:ss.Nodup
 len:5<=ss.length
 le:ss.length<=10
 srt:ss.Pairwise fun m n=>m.cps.toList < n.cps.toList
theorem zan (hl:ns.length<=5):zf0 ns (kH.filter fun n=>decide (n ∉ ns)):=by
 have h:=Zt ns wL;have RU:kH.length=10:=rfl;refine ⟨fun n=>by simp [List.mem_filter],wL.filter _,by omega,?_,Ar.filter _⟩;have:=List.length_filter_le (fun n=>decide (n ∉ ns)) kH;omega
theorem C0.has {K:Qn} {H:Hp} (h:C0 K H d b) (n:Str):∃ o,DGet H d (.str n) o/\o.isSome=decide (n ∈ b.names):=by
 obtain ⟨us,h1,h2⟩:=h;by_cases hn:n ∈ b.names
 ·obtain ⟨kd,e⟩:=Bk.d8 hn;obtain ⟨v,h3,_⟩:=Sw h2 e;exact ⟨some v,jk h1 h3,by rw [Ya hn]; rfl⟩
 ·refine ⟨none,.inl ⟨_,Sum.inr n,.inl h1,Ja,?_⟩,by rw [Qz hn]; rfl⟩;have ul:=h2.length;have:List.find? (fun kv:Key × V=>decide (kv.1=Sum.inr n)) (j9 b.names us)=Option.none:=by
   refine List.find?_eq_none.mpr fun x hx=>?_;have hk:x.1 ∈ (zk b.names us).map (·.1):=Ku ⟨x,hx,rfl⟩;rw [SF (by rw [ul]; exact (List.length_map ..).symm)] at hk;obtain ⟨m,hm,e⟩:=Qx hk;rw [<- e];simp only [decide_eq_true_eq];exact fun z=>hn (by rw [<- Sum.inr.inj z]; exact hm)
  unfold valV;rw [this]; rfl
theorem zf3 {c:Nat} (h:("abcdefghij":Str).cps[i]?=some c):kH[i]?=some ⟨#[c]⟩:=by
 have e:∀ j:Fin 10,kH[j.1]?=(("abcdefghij":Str).cps[j.1]?).map fun c=>(⟨#[c]⟩:Str):=by decide +kernel
 have hi:i < 10:=by
  obtain ⟨h1,_⟩:=Array.getElem?_eq_some_iff.mp h;exact h1
 rw [e ⟨i,hi⟩,h]; rfl
theorem zj6 {N L:List Str} (e:L[i]?=some z):(L.take (i+1)).filter (fun n=>decide (n ∉ N))=(L.take i).filter (fun n=>decide (n ∉ N))++if z ∉ N then [z] else []:=by
 rw [Yg,e,List.filter_append]
 congr 1
 by_cases h:z ∈ N <;> simp [h]
theorem zlf (h:5<=xs.length):cutV xs (some 3) (some 5)=(xs.drop 3).take 2:=by
 unfold cutV;have h1:HT.sIx xs.length 0 (some (3:Int))=min 3 xs.length:=HT.sIx_nat xs.length 0 3;have h2:HT.sIx xs.length xs.length (some (5:Int))=min 5 xs.length:=HT.sIx_nat xs.length xs.length 5;rw [h1,h2,Nat.min_eq_left h,Nat.min_eq_left (by omega)]
namespace Gr
theorem pF {t:Tr}:∀ {L:List (Tr × Int)},(∀ q ∈ L,q.1 ≠ t)->sumE L t=0
 | [],_=>rfl
 | q::r,h=>by
  rw [pC,if_neg (h q (bw ..)),pF fun x hx=>h x (bI _ hx)]; rfl
theorem sv {t:Tr}:∀ {L:List (Tr × Int)},(∀ q ∈ L,1<=q.2)->∀ p ∈ L,p.1=t->1<=sumE L t
 | [],_,_,h,_=>nomatch h
 | q::r,hL,p,hp,e=>by
  have nn:=iy (bs:=r) t fun x hx=>by have:=hL x (bI _ hx); omega
  rw [pC];rcases Qv hp with z | z
  ·rw [<- z,if_pos e]; have:=hL q (bw ..); rw [<- z] at this; omega
  ·have:=sv (fun x hx=>hL x (bI _ hx)) p z e
   split <;> (have:=hL q (bw ..); omega)
theorem yE (pos:∀ q ∈ bs,1<=q.2) {p:Tr × Int} (hp:p ∈ bs):∃ m,(p.1,m) ∈ (tidy bs).ps:=by
 refine Classical.byContradiction fun z=>?_;have e:(tidy bs).ps=rR aO bs:=aK (rR aO bs);have h1:=Iz (enc:=aO) bs p.1;rw [pF (L:=rR aO bs) fun q hq hz=>z ⟨q.2,by rw [e,<- hz]; exact hq⟩] at h1;have h2:=sv pos p hp rfl;omega
theorem lJ (pos:∀ q ∈ bs,1<=q.2) {p:Tr × Int} (hp:p ∈ bs):p.1.1 ∈ (tidy bs).within.map (·.1.1)/\∀ x ∈ p.1.2.within,x.1.1 ∈ (tidy bs).within.map (·.1.1):=by
 obtain ⟨m,hm⟩:=yE pos hp;have hw:∀ x ∈ (p.1,m)::p.1.2.within,x ∈ (tidy bs).within:=fun x hx=>by
  rw [dO]; exact List.mem_flatMap.mpr ⟨(p.1,m),hm,hx⟩
 exact ⟨Ku ⟨(p.1,m),hw _ (bw ..),Ja⟩,fun x hx=>Ku ⟨x,hw x (bI _ hx),Ja⟩⟩
end Gr
structure In55 (ns:List Str) (rg:Str) (g:Gr):Prop where
 named:Gr.Named (ns++[rg]) g
 has:rg ∈ g.within.map (·.1.1)
 ok:g.Ok 1000000001
 parts:g.parts<=2
 deep:g.deep<=2
theorem In55.one {rg:Str} (h:dN rg):In55 ns rg (.cons rg .nil 1 .nil):=⟨fun x hx=>by
  have hx:x ∈ [((rg,Gr.nil),(1:Int))]:=hx;rw [Qy hx]; exact jr _ (Kv rfl),Ku ⟨((rg,.nil),1),bw ..,Ja⟩,⟨h,trivial,by decide,by decide,trivial,by simp [Gr.ps]⟩,Nat.le_of_ble_eq_true rfl,Nat.le_of_ble_eq_true rfl⟩
theorem In55.two {n0 rg:Str} (hn:n0 ∈ ns) (h0:dN n0) (h:dN rg):In55 ns rg (.cons n0 (.cons rg .nil 2 .nil) 1 .nil):=⟨fun x hx=>by
  have hx:x ∈ [((n0,Gr.cons rg .nil 2 .nil),(1:Int)),((rg,Gr.nil),(2:Int))]:=hx;rcases Qv hx with e | e
  ·rw [e]; exact gR _ hn
  ·rw [Qy e]; exact jr _ (Kv rfl),Ku ⟨((rg,.nil),2),bI _ (bw ..),Ja⟩,⟨h0,⟨h,trivial,by decide,by decide,trivial,by simp [Gr.ps]⟩,by decide,by decide,trivial,by simp [Gr.ps]⟩,Nat.le_of_ble_eq_true rfl,Nat.le_of_ble_eq_true rfl⟩
theorem In55.Fe {c:Bk} (ok:c.Ok) (hl:c.length<=7) {ns:List Str} (A9:∀ n ∈ ns,n ∈ c.names) {rg:Str} (ho:dN rg) (hn:rg ∉ c.names) {gi:Gr} (I:In55 ns rg gi) {ru:Ru} (hr:ru=(gi,.nil)\/ru=(.nil,gi)):z1h c ⟨rg,false,[ru]⟩:=by
 have hw:∀ x,x ∈ Ru.within ru ↔ x ∈ gi.within:=fun x=>by
  rcases hr with rfl | rfl
  ·show x ∈ gi.within++Gr.nil.within ↔ _;simp [Gr.within]
  ·show x ∈ Gr.nil.within++gi.within ↔ _;simp [Gr.within]
 have nm:∀ x ∈ Ru.within ru,x.1.1 ∈ c.names++[rg]:=fun x hx=>by
  rcases Qw (I.named x ((hw x).mp hx)) with e | e
  ·exact gR _ (A9 _ e)
  ·exact jr _ e
 have iD:eW ru:=by
  have h1:=I.ok;have h2:=I.parts;rcases hr with rfl | rfl
  ·exact ⟨h1,trivial,by show gi.parts+0<=4; omega⟩
  ·exact ⟨trivial,h1,by show 0+gi.parts<=4; omega⟩
 have en:Bk.names (c++[⟨rg,false,[ru]⟩])=c.names++[rg]:=by simp [Bk.names]
 refine ⟨hn,⟨by simp,by rw [Yf]; show c.length+1<=8; omega,?_,fun k hk=>?_⟩,?_⟩
 ·rw [en];exact List.nodup_append.mpr ⟨ok.nd,by simp,fun a ha b hb=>by rw [Qy hb]; exact fun z=>hn (z ▸ ha)⟩
 ·rw [en];rcases Qw hk with e | e
  ·obtain ⟨a1,a2,a3⟩:=ok.kd k e;exact ⟨a1,a2,fun r hr=>⟨(a3 r hr).1,fun p hp=>gR _ ((a3 r hr).2 p hp)⟩⟩
  ·rw [Qy e];refine ⟨ho,by show 1<=4; decide,fun r Mq=>?_⟩;rw [Qy Mq];exact ⟨iD,nm⟩
 ·obtain ⟨x,hx,e⟩:=Qx I.has;have:=yu (rs:=[ru]) (Kv rfl) ((hw x).mpr hx);rw [e] at this;exact this
theorem QM {s n:Str} (hs:PyData.strOk s=true) (hn:dN n):SeqAt.shaped (.tuple [.str s,.str n])=true:=zbc (by simp [plS,plSs,hs,Gr.fF hn]) (by simp [PyData.depth,PyData.depthAll])
theorem Za (s n:Str):(!PyData.eqv (.tuple [.str s,.str n]) (.tuple [.str s,.str n]))=false:=by simp [PyData.eqv,PyData.eqvAll]
def top (i:Nat):Stmt:=PySem.Challenge.pw_felltimber_k55_reaching_too_far.main.body.getD i (.Pass ⟨0,0,0,0⟩)
abbrev JQ:Stmt:=top 3
abbrev J6:Stmt:=top 4
abbrev JE:Stmt:=top 5
abbrev EK:Stmt:=top 6
abbrev JJ:Stmt:=top 7
abbrev Io:Stmt:=top 8
abbrev J2:Stmt:=top 9
abbrev J7:Stmt:=top 32
abbrev HX:Stmt:=top 33
abbrev Ii:Stmt:=top 34
abbrev JI:Stmt:=top 35
abbrev HJ:Stmt:=top 36
abbrev J9:Stmt:=top 44
abbrev J4:Stmt:=top 45
abbrev KD:Stmt:=top 46
abbrev EL:Stmt:=top 47
abbrev Ie:Stmt:=top 48
abbrev HI:Stmt:=top 49
abbrev Il:Stmt:=top 50
abbrev JL:Stmt:=top 52
abbrev HR:Stmt:=top 53
abbrev JT:Stmt:=top 55
abbrev Ij:Stmt:=top 56
abbrev HK:Stmt:=top 57
abbrev HZ:Stmt:=top 58
abbrev Ik:Stmt:=top 59
abbrev HW:Stmt:=top 60
abbrev KH:Stmt:=top 61
abbrev Kg:Stmt:=top 63
abbrev Ih:Stmt:=top 64
abbrev JM:Stmt:=top 65
abbrev HY:Stmt:=top 67
abbrev J0:Stmt:=top 68
abbrev Im:Stmt:=top 69
abbrev HV:Stmt:=top 70
abbrev JN:Stmt:=top 71
abbrev JD:Stmt:=top 73
abbrev Ig:Stmt:=top 74
abbrev JV:Stmt:=top 75
abbrev JW:Stmt:=top 77
abbrev HP:Stmt:=top 78
abbrev JZ:Stmt:=top 79
abbrev HH:Stmt:=top 80
abbrev Km:Stmt:=top 81
abbrev JK:Stmt:=top 82
abbrev J8:Stmt:=top 84
abbrev C5:Stmt:=top 85
abbrev KG:Stmt:=top 86
abbrev JG:Stmt:=top 87
abbrev Kh:Stmt:=top 88
abbrev JO:Stmt:=top 89
abbrev Kb:Stmt:=top 90
abbrev HQ:Stmt:=top 91
abbrev JU:Stmt:=top 93
abbrev KC:Stmt:=top 94
abbrev JY:Stmt:=top 95
abbrev uV:Stmt:=top 96
abbrev yS:Stmt:=top 97
abbrev xb:Stmt:=top 98
abbrev KA:Stmt:=top 99
abbrev HM:Stmt:=top 100
abbrev JF:Stmt:=top 101
abbrev HU:Stmt:=top 102
abbrev C4:Stmt:=top 103
abbrev Kc:Stmt:=top 104
abbrev yR:Stmt:=top 105
abbrev HS:Stmt:=top 106
abbrev JR:Stmt:=top 107
abbrev J5:Stmt:=top 108
abbrev Kj:Stmt:=top 109
abbrev JH:Stmt:=top 110
abbrev JP:Stmt:=top 111
abbrev JS:Stmt:=top 112
abbrev EI:Stmt:=top 113
abbrev xc:Stmt:=inClass (top 17) 0
abbrev xf:Stmt:=inClass (top 23) 0
abbrev sH:Stmt:=inClass (top 43) 0
abbrev xi:Stmt:=inClass (top 43) 1
abbrev xg:Stmt:=inClass (top 43) 2
abbrev xh:Stmt:=inClass (top 43) 3
abbrev eC:List Str:=["NoKind","Endless","NoReach"]
abbrev eN:List Str:=["NoLadder","NoRest","NoGrove","NoPlace","NoBook","NoKind","NoRule","NoNumber","TooGreat","NoRise","NoFall","Endless","NotEndless","NoWorths","NoDrop","NoReach","TooLong","NoRow","NoName"]
abbrev eK:List Str:=["NoKind","Endless"]
def zjz:He.DefD:=⟨(fT,none),fT,fT,defArgs JQ,defBody JQ,defScope JQ,[],[]⟩
def zkd:He.DefD:=⟨(gq,none),gq,gq,defArgs J6,defBody J6,defScope J6,[],[]⟩
def zj3:He.DefD:=⟨(ik,none),ik,ik,defArgs JE,defBody JE,defScope JE,[],[]⟩
def zkl:He.DefD:=⟨(e7,none),e7,e7,defArgs EK,defBody EK,defScope EK,[],[]⟩
def zia:He.DefD:=⟨(oS,none),oS,oS,defArgs JJ,defBody JJ,defScope JJ,[],[]⟩
def zj7:He.DefD:=⟨(ij,none),ij,ij,defArgs Io,defBody Io,defScope Io,[],[]⟩
def zk4:He.DefD:=⟨(oR,none),oR,oR,defArgs J2,defBody J2,defScope J2,[],[]⟩
def zkj:He.DefD:=⟨(fZ,none),fZ,fZ,defArgs J7,defBody J7,defScope J7,[],[]⟩
def zjm:He.DefD:=⟨(dV,none),dV,dV,defArgs HX,defBody HX,defScope HX,[],[]⟩
def zlh:He.DefD:=⟨(a8,none),a8,a8,defArgs Ii,defBody Ii,defScope Ii,[],[]⟩
def zle:He.DefD:=⟨(bx,none),bx,bx,defArgs JI,defBody JI,defScope JI,[],[]⟩
def zj4:He.DefD:=⟨(cQ,none),cQ,cQ,defArgs HJ,defBody HJ,defScope HJ,[],[]⟩
def zi3:He.DefD:=⟨(bu,none),bu,bu,defArgs J9,defBody J9,defScope J9,[],[]⟩
def zil:He.DefD:=⟨(c6,none),c6,c6,defArgs J4,defBody J4,defScope J4,[],[]⟩
def zkt:He.DefD:=⟨(dq,none),dq,dq,defArgs KD,defBody KD,defScope KD,[],[]⟩
def zio:He.DefD:=⟨(gu,none),gu,gu,defArgs EL,defBody EL,defScope EL,[],[]⟩
def zl1:He.DefD:=⟨(kL,none),kL,kL,defArgs Ie,defBody Ie,defScope Ie,[],[]⟩
def zkg:He.DefD:=⟨(kK,none),kK,kK,defArgs HI,defBody HI,defScope HI,[],[]⟩
def zjg:He.DefD:=⟨(fj,none),fj,fj,defArgs Il,defBody Il,defScope Il,[],[]⟩
def zlc:He.DefD:=⟨(kI,none),kI,kI,defArgs JL,defBody JL,defScope JL,[],[]⟩
def zkr:He.DefD:=⟨(cA,none),cA,cA,defArgs HR,defBody HR,defScope HR,[],[]⟩
def zjl:He.DefD:=⟨(ia,none),ia,ia,defArgs JT,defBody JT,defScope JT,[],[]⟩
def zkx:He.DefD:=⟨(ie,none),ie,ie,defArgs Ij,defBody Ij,defScope Ij,[],[]⟩
def zk2:He.DefD:=⟨(vS,none),vS,vS,defArgs HK,defBody HK,defScope HK,[],[]⟩
def zk7:He.DefD:=⟨(cT,none),cT,cT,defArgs HZ,defBody HZ,defScope HZ,[],[]⟩
def zl0:He.DefD:=⟨(fY,none),fY,fY,defArgs Ik,defBody Ik,defScope Ik,[],[]⟩
def zjk:He.DefD:=⟨(cY,none),cY,cY,defArgs HW,defBody HW,defScope HW,[],[]⟩
def zkp:He.DefD:=⟨(dW,none),dW,dW,defArgs KH,defBody KH,defScope KH,[],[]⟩
def zja:He.DefD:=⟨(jc,none),jc,jc,defArgs Kg,defBody Kg,defScope Kg,[],[]⟩
def zig:He.DefD:=⟨(cX,none),cX,cX,defArgs Ih,defBody Ih,defScope Ih,[],[]⟩
def zj9:He.DefD:=⟨(eE,none),eE,eE,defArgs JM,defBody JM,defScope JM,[],[]⟩
def zke:He.DefD:=⟨(gL,none),gL,gL,defArgs HY,defBody HY,defScope HY,[],[]⟩
def zjn:He.DefD:=⟨(EH,none),EH,EH,defArgs J0,defBody J0,defScope J0,[],[]⟩
def zjs:He.DefD:=⟨(bX,none),bX,bX,defArgs Im,defBody Im,defScope Im,[],[]⟩
def zji:He.DefD:=⟨(ig,none),ig,ig,defArgs HV,defBody HV,defScope HV,[],[]⟩
def zi6:He.DefD:=⟨(EF,none),EF,EF,defArgs JN,defBody JN,defScope JN,[],[]⟩
def zid:He.DefD:=⟨(qg,none),qg,qg,defArgs JD,defBody JD,defScope JD,[],[]⟩
def ziq:He.DefD:=⟨(vU,none),vU,vU,defArgs Ig,defBody Ig,defScope Ig,[],[]⟩
def zk5:He.DefD:=⟨(oQ,none),oQ,oQ,defArgs JV,defBody JV,defScope JV,[],[]⟩
def zl6:He.DefD:=⟨(EG,none),EG,EG,defArgs JW,defBody JW,defScope JW,[],[]⟩
def zk6:He.DefD:=⟨(eZ,none),eZ,eZ,defArgs HP,defBody HP,defScope HP,[],[]⟩
def zlg:He.DefD:=⟨(qh,none),qh,qh,defArgs JZ,defBody JZ,defScope JZ,[],[]⟩
def zkz:He.DefD:=⟨(cf,none),cf,cf,defArgs HH,defBody HH,defScope HH,[],[]⟩
def zik:He.DefD:=⟨(bJ,none),bJ,bJ,defArgs Km,defBody Km,defScope Km,[],[]⟩
def zl5:He.DefD:=⟨(vT,none),vT,vT,defArgs JK,defBody JK,defScope JK,[],[]⟩
def zku:He.DefD:=⟨(iq,none),iq,iq,defArgs J8,defBody J8,defScope J8,[],[]⟩
def zij:He.DefD:=⟨(bA,none),bA,bA,defArgs C5,defBody C5,defScope C5,[],[]⟩
def zj8:He.DefD:=⟨(eB,none),eB,eB,defArgs KG,defBody KG,defScope KG,[],[]⟩
def zix:He.DefD:=⟨(kJ,none),kJ,kJ,defArgs JG,defBody JG,defScope JG,[],[]⟩
def zjy:He.DefD:=⟨(bN,none),bN,bN,defArgs Kh,defBody Kh,defScope Kh,[],[]⟩
def zk8:He.DefD:=⟨(cS,none),cS,cS,defArgs JO,defBody JO,defScope JO,[],[]⟩
def zld:He.DefD:=⟨(cJ,none),cJ,cJ,defArgs Kb,defBody Kb,defScope Kb,[],[]⟩
def zju:He.DefD:=⟨(dE,none),dE,dE,defArgs HQ,defBody HQ,defScope HQ,[],[]⟩
def zlk:He.DefD:=⟨(ir,none),ir,ir,defArgs JU,defBody JU,defScope JU,[],[]⟩
def zli:He.DefD:=⟨(bK,none),bK,bK,defArgs KC,defBody KC,defScope KC,[],[]⟩
def zkk:He.DefD:=⟨(bD,none),bD,bD,defArgs JY,defBody JY,defScope JY,[],[]⟩
def Xk:He.DefD:=⟨(cG,none),cG,cG,defArgs uV,defBody uV,defScope uV,[],[]⟩
def Xj:He.DefD:=⟨(dj,none),dj,dj,defArgs yS,defBody yS,defScope yS,[],[]⟩
def Xl:He.DefD:=⟨(fu,none),fu,fu,defArgs xb,defBody xb,defScope xb,[],[]⟩
def zib:He.DefD:=⟨(fU,none),fU,fU,defArgs KA,defBody KA,defScope KA,[],[]⟩
def zi4:He.DefD:=⟨(bY,none),bY,bY,defArgs HM,defBody HM,defScope HM,[],[]⟩
def zjx:He.DefD:=⟨(bL,none),bL,bL,defArgs JF,defBody JF,defScope JF,[],[]⟩
def zkn:He.DefD:=⟨(dg,none),dg,dg,defArgs HU,defBody HU,defScope HU,[],[]⟩
def zk3:He.DefD:=⟨(fq,none),fq,fq,defArgs C4,defBody C4,defScope C4,[],[]⟩
def ziu:He.DefD:=⟨(aW,none),aW,aW,defArgs Kc,defBody Kc,defScope Kc,[],[]⟩
def Xi:He.DefD:=⟨(cb,none),cb,cb,defArgs yR,defBody yR,defScope yR,[],[]⟩
def zj0:He.DefD:=⟨(ft,none),ft,ft,defArgs HS,defBody HS,defScope HS,[],[]⟩
def zjt:He.DefD:=⟨(bU,none),bU,bU,defArgs JR,defBody JR,defScope JR,[],[]⟩
def zkb:He.DefD:=⟨(bT,none),bT,bT,defArgs J5,defBody J5,defScope J5,[],[]⟩
def zko:He.DefD:=⟨(bS,none),bS,bS,defArgs Kj,defBody Kj,defScope Kj,[],[]⟩
def ziw:He.DefD:=⟨(aY,none),aY,aY,defArgs JH,defBody JH,defScope JH,[],[]⟩
def zk1:He.DefD:=⟨(dG,none),dG,dG,defArgs JP,defBody JP,defScope JP,[],[]⟩
def zi5:He.DefD:=⟨(dF,none),dF,dF,defArgs JS,defBody JS,defScope JS,[],[]⟩
def Yq:He.DefD:=⟨("law",none),"law","law",defArgs EI,defBody EI,defScope EI,[],[]⟩
def OJ:He.DefD:=⟨("NoKind",some "__init__"),"__init__","NoKind.__init__",defArgs xc,defBody xc,defScope xc,[],[]⟩
def OK:He.DefD:=⟨("Endless",some "__init__"),"__init__","Endless.__init__",defArgs xf,defBody xf,defScope xf,[],[]⟩
def OO:He.DefD:=⟨("Book",some "__init__"),"__init__","Book.__init__",defArgs sH,defBody sH,defScope sH,[],[]⟩
def ON:He.DefD:=⟨("Book",some eS),eS,"Book.names",defArgs xi,defBody xi,defScope xi,[],[]⟩
def OL:He.DefD:=⟨("Book",some "spreads"),"spreads","Book.spreads",defArgs xg,defBody xg,defScope xg,[],[]⟩
def OM:He.DefD:=⟨("Book",some "rules"),"rules","Book.rules",defArgs xh,defBody xh,defScope xh,[],[]⟩
def fn:List He.DefD:=[zjz,zkd,zj3,zkl,zia,zj7,zk4,zkj,zjm,zlh,zle,zj4,zi3,zil,zkt,zio,zl1,zkg,zjg,zlc,zkr,zjl,zkx,zk2,zk7,zl0,zjk,zkp,zja,zig,zj9,zke,zjn,zjs,zji,zi6,zid,ziq,zk5,zl6,zk6,zlg,zkz,zik,zl5,zku,zij,zj8,zix,zjy,zk8,zld,zju,zlk,zli,zkk,Xk,Xj,Xl,zib,zi4,zjx,zkn,zk3,ziu,Xi,zj0,zjt,zkb,zko,ziw,zk1,zi5,Yq,OJ,OK,OO,ON,OL,OM]
def fa1:List He.Fa:=[.glo fT,.glo gq,.glo ik,.glo e7,.glo oS,.glo ij,.glo oR,.glo fZ,.glo dV,.glo a8,.glo bx,.glo cQ,.glo bu,.glo c6,.glo dq,.glo gu,.glo kL,.glo kK,.glo fj,.glo kI,.glo cA,.glo ia,.glo ie,.glo vS,.glo cT,.glo fY,.glo cY,.glo dW,.glo jc,.glo cX,.glo eE,.glo gL,.glo EH,.glo bX,.glo ig,.glo EF,.glo qg,.glo vU,.glo oQ,.glo EG,.glo eZ,.glo qh,.glo cf,.glo bJ,.glo vT,.glo iq,.glo bA,.glo eB,.glo kJ,.glo bN,.glo cS,.glo cJ,.glo dE,.glo ir,.glo bK,.glo bD,.glo cG,.glo dj,.glo fu,.glo fU,.glo bY,.glo bL,.glo dg,.glo fq,.glo aW,.glo cb,.glo ft,.glo bU,.glo bT,.glo bS]
def fa2:List He.Fa:=[.glo aY,.glo dG,.glo dF,.glo "law",.free "len",.free "isinstance",.free "int",.free "bool",.free "str",.free "tuple",.free "list",.free "all",.free "zip",.free "sum",.free "max",.free "range",.free "enumerate",.free "abs",.free "sorted",.free "min",.free "reversed",.free "any",.free "set",.free "dict",.free "repr",.glo "FellError",.free "ValueError",.glo "NoLadder",.glo "NoRest",.glo "NoGrove",.glo "NoPlace",.glo "NoBook",.glo "NoKind",.glo "NoRule",.glo "NoNumber",.glo "TooGreat",.glo "NoRise",.glo "NoFall",.glo "Endless",.glo "NotEndless",.glo "NoWorths",.glo "NoDrop",.glo "NoReach",.glo "TooLong",.glo "NoRow",.glo "NoName",.noat "NoKind" "kind",.noat "Endless" "kind",.str "LETTERS" "abcdefghijklmnopqrstuvwxyz",.int "LONGEST_NAME" (8),.int "MOST_KINDS" (8),.int "MOST_RULES" (4),.int "MOST_RULE_PARTS" (4),.int "MOST_MANY" (1000000000),.glo "NO_GROVES",.exc "NoBook",.exc "NoPlace",.exc "NoReach",.exc "NoRest",.meth "NoKind" "__init__",.meth "Endless" "__init__",.glo "Book",.cls "Book",.noat "Book" "spread_by_name",.noat "Book" "rows_by_name",.mkr "Book",.meth "Book" eS,.meth "Book" "spreads",.meth "Book" "rules"]
def fa:List He.Fa:=fa1++fa2
def CN (K:Qn):Bool:=Sd K (He.ga K "NoKind")&&(Sd K (He.ga K "Endless")&&(no2B K (He.ga K "NO_GROVES")&&(OE K (He.ga K) eC eN)))
abbrev R:PySem.W.OpenRow:=PySem.W.OpenLaw.row PySem.Challenge.rw_felltimber_k55_reaching_too_far
def Xx:List Addr:=[3,6,4,21,28,35,40,47,52,59,69,82,94,106,118,130,149,161,173,185,197,209,228,240,252,264,276,288,300,312,321,326,333,340,345,348,384,395,402,409,414,419,424,429,436,441,448,453,458,463,468,473,480,487,494,501,506,513,518,523,530,537,542,549,556,561,568,573,580,587,594,599,606,613,620,627,634,639,646,653,660,665,672,677,684,689,696,701,706,713,720,725,732,739,746,753,760,767,772,0,20,27,34,39,46,51,58,68,81,93,105,117,129,148,160,172,184,196,208,227,239,251,263,275,287,299,311,320,325,332,339,344,346,347,383,394,401,408,413,418,423,428,435,440,447,452,457,462,467,472,479,486,493,500,505,512,517,522,529,536,541,548,555,560,567,572,579,586,593,598,605,612,619,626,633,638,645,652,659,664,671,676,683,688,695,700,705,712,719,724,731,738,745,752,759,766,771,15,16,17,18,19,22,23,24,25,26,29,30,31,32,33,36,37,38,41,42,43,44,45,48,49,50,53,54,55,56,57,67,70,80,92,104,116,128,146,147,159,171,183,195,207,225,226,238,250,262,274,286,298,310,315,316,317,318,319,322,323,324,327,328,329,330,331,334,335,336,337,338,341,342,343,360,367,374,381,382,385,386,389,390,391,392,393,396,397,398,399,400,403,404,405,406,407,410,411,412,415,416,417,420,421,422,425,426,427,430,431,432,433,434,437,438,439,442,443,444,445,446,449,450,451,454,455,456,459,460,461,464,465,466,469,470,471,474,475,476,477,478,481,482,483,484,485,488,489,490,491,492,495,496,497,498,499,502,503,504,507,508,509,510,511,514,515,516,519,520,521,524,525,526,527,528,531,532,533,534,535,538,539,540,543,544,545,546,547,550,551,552,553,554,557,558,559,562,563,564,565,566,569,570,571,574,575,576,577,578,581,582,583,584,585,588,589,590,591,592,595,596,597,600,601,602,603,604,607,608,609,610,611,614,615,616,617,618,621,622,623,624,625,628,629,630,631,632,635,636,637,640,641,642,643,644,647,648,649,650,651,654,655,656,657,658,661,662,663,666,667,668,669,670,673,674,675,678,679,680,681,682,685,686,687,690,691,692,693,694,697,698,699,702,703,704,707,708,709,710,711,714,715,716,717,718,721,722,723,726,727,728,729,730,733,734,735,736,737,740,741,742,743,744,747,748,749,750,751,754,755,756,757,758,761,762,763,764,765,768,769,770,145,224,359,366,373,380,140,141,142,143,144,219,220,221,222,223,356,357,358,361,362,363,364,365,368,369,370,371,372,375,376,377,378,379]
def Fj (as:List Addr) (fa:List He.Fa) (fn:List He.DefD) (ex:Qn->Bool) (g:Addr->Option Obj):PF:=(He.obsD fa fn (He.frG g as),ex (He.frG g as))
def X8 (as:List Addr) (fa:List He.Fa) (fn:List He.DefD) (ex:Qn->Bool):PySem.W.Hook where
 α:=PF
 obs:=fun s=>Fj as fa fn ex s.heap.get?
 val:=fun _=>(He.valD fn,true)
 says:=fun _ h=>∃ K:Qn,K.In h/\He.SaysD fa fn K/\ex K=true
 of:=fun _ _ e=>⟨_,He.frG_in,congrArg (fun z:PF=>z.1) e,congrArg (fun z:PF=>z.2) e⟩
 keeps:=fun _ _ _ ⟨K,hK,c⟩ k=>⟨K,PySem.W.Frag.In.keeps hK k,c⟩
theorem ze9 {as:List Addr} {fa:List He.Fa} {fn:List He.DefD} {ex:Qn->Bool} {g:Addr->Option Obj} (h:∀ a,g a=s.heap.get? a):Fj as fa fn ex g=(X8 as fa fn ex).obs s:=by
 have e:g=s.heap.get?:=funext h;rw [e] <;> rfl
abbrev hk:PySem.W.Hook:=X8 Xx fa fn CN
def ob (s:PySem.W.SharedT):PF:=Fj Xx fa fn CN (HandSHeadRun.getT s)
theorem ob_eq (s:PySem.W.SharedT):ob s=hk.obs s.abs:=ze9 (HandSHeadRun.getT_eq s)
def loose:List PySem.Str:=([fT,gq,ik,e7,oS,ij,oR,"FellError","NoLadder","NoRest","NoGrove","NoPlace"]:List PySem.Str)++(["NoBook","NoKind","NoRule","NoNumber","TooGreat","NoRise","NoFall","Endless","NotEndless","NoWorths","NoDrop","NoReach"]:List PySem.Str)++(["TooLong","NoRow","NoName",fZ,dV,a8,bx,cQ,"Book",bu,c6,dq]:List PySem.Str)++([gu,kL,kK,fj,kI,cA,ia,ie,vS,cT,fY,cY]:List PySem.Str)++([dW,jc,cX,eE,gL,EH,bX,ig,EF,qg,vU,oQ]:List PySem.Str)++([EG,eZ,qh,cf,bJ,vT,iq,bA,eB,kJ,bN,cS]:List PySem.Str)++([cJ,dE,ir,bK,bD,cG,dj,fu,fU,bY,bL,dg]:List PySem.Str)++([fq,aW,cb,ft,bU,bT,bS,aY,dG,dF,"LETTERS","LONGEST_NAME"]:List PySem.Str)++(["MOST_KINDS","MOST_MANY","MOST_RULES","MOST_RULE_PARTS","NO_GROVES"]:List PySem.Str)
def JA (s:PySem.W.SharedT):Qn:=He.frG (HandSHeadRun.getT s) Xx
theorem Ue (w:World) (os:PySem.OsState):(HandSHeadRun.endF (HandSHeadRun.stepQ (HandSHeadRun.denQ HandSHeadRun.tabQ) R.prog w) 9000 R.prog w os).map (fun s=>HandSHeadRun.looksF R.prog (PySem.W.boot_heap w.params) s.abs)=some true:=by
 kernel_rfl
theorem Ud (w:World) (os:PySem.OsState):(HandSHeadRun.endF (HandSHeadRun.stepQ (HandSHeadRun.denQ HandSHeadRun.tabQ) R.prog w) 9000 R.prog w os).map (fun s=>HandSHeadRun.seenQ (PySem.W.view R.prog [113]) loose (importedModules R.prog.main.body) (fun s=>xlAt (PySem.W.view R.prog [113]) [] s&&recOk R.toRowW.records s) s.abs)=some (openGood (PySem.W.view R.prog [113]) loose):=by
 kernel_rfl
theorem Uc (w:World) (os:PySem.OsState):(HandSHeadRun.endF (HandSHeadRun.stepQ (HandSHeadRun.denQ HandSHeadRun.tabQ) R.prog w) 9000 R.prog w os).map (fun s=>fa1.all fun f=>f.ok (JA s))=some true:=by
 kernel_rfl
theorem Ub (w:World) (os:PySem.OsState):(HandSHeadRun.endF (HandSHeadRun.stepQ (HandSHeadRun.denQ HandSHeadRun.tabQ) R.prog w) 9000 R.prog w os).map (fun s=>fa2.all fun f=>f.ok (JA s))=some true:=by
 kernel_rfl
theorem T9 (w:World) (os:PySem.OsState):(HandSHeadRun.endF (HandSHeadRun.stepQ (HandSHeadRun.denQ HandSHeadRun.tabQ) R.prog w) 9000 R.prog w os).map (fun s=>fn.all fun d=>d.ok (JA s))=some true:=by
 kernel_rfl
theorem T8 (w:World) (os:PySem.OsState):(HandSHeadRun.endF (HandSHeadRun.stepQ (HandSHeadRun.denQ HandSHeadRun.tabQ) R.prog w) 9000 R.prog w os).map (fun s=>fn.map fun d=>He.fnW (JA s) d.at_)=some (fn.map He.DefD.val):=by
 kernel_rfl
theorem T7 (w:World) (os:PySem.OsState):(HandSHeadRun.endF (HandSHeadRun.stepQ (HandSHeadRun.denQ HandSHeadRun.tabQ) R.prog w) 9000 R.prog w os).map (fun s=>CN (JA s))=some true:=by
 kernel_rfl
theorem UP {σ α β γ:Type} {o:Option σ} {A:σ->α} {B:σ->β} {C:σ->γ} {a:α} {b:β} {c:γ} (h1:o.map A=some a) (h2:o.map B=some b) (h3:o.map C=some c):o.map (fun s=>(A s,B s,C s))=some (a,b,c):=by
 cases o with
 | none=>cases h1
 | some s=>exact congrArg some (Prod.ext (Yd h1) (Prod.ext (Yd h2) (Yd h3)))
theorem UO {σ:Type} {o:Option σ} {f1 f2:List He.Fa} {gn:List He.DefD} {ex:Qn->Bool} (K:σ->Qn) (h1:o.map (fun s=>f1.all fun f=>f.ok (K s))=some true) (h2:o.map (fun s=>f2.all fun f=>f.ok (K s))=some true) (h3:o.map (fun s=>gn.all fun d=>d.ok (K s))=some true) (h4:o.map (fun s=>gn.map fun d=>He.fnW (K s) d.at_)=some (gn.map He.DefD.val)) (h5:o.map (fun s=>ex (K s))=some true):o.map (fun s=>(He.obsD (f1++f2) gn (K s),ex (K s)))=some (He.valD gn,true):=by
 cases o with
 | none=>cases h1
 | some s =>
  have e1:(f1.all fun f=>f.ok (K s))=true:=Yd h1;have e2:(f2.all fun f=>f.ok (K s))=true:=Yd h2;have e3:(gn.all fun d=>d.ok (K s))=true:=Yd h3;have e4:(gn.map fun d=>He.fnW (K s) d.at_)=gn.map He.DefD.val:=Yd h4;have e5:ex (K s)=true:=Yd h5;refine congrArg some (Prod.ext (Prod.ext ?_ e4) e5);show (((f1++f2).all fun f=>f.ok (K s))&&gn.all fun d=>d.ok (K s))=true;rw [List.all_append,e1,e2,e3]; rfl
theorem run (w:World):HandSHeadRun.RunEq R (PySem.W.view R.prog [113]) hk ob 9000 loose w:=by
 intro os;exact UP (Ue w os) (Ud w os) (UO JA (Uc w os) (Ub w os) (T9 w os) (T8 w os) (T7 w os))
theorem fS {N P:List Str} {s:Scope} (a:s.kind=.function:=by exact rfl) (b:s.isCoroutine=false:=by exact rfl) (c:s.isGenerator=false:=by exact rfl) (d:N.Nodup:=by decide +kernel) (e:N.take P.length=P:=by exact rfl) (f:∀ x,x ∈ P->s.names.lookup x=some .local\/s.names.lookup x=some .cell:=by decide +kernel) (g:∀ y,y ∈ s.names->y.2≠.free:=by decide +kernel):FnScope N P s:=⟨a,b,c,d,e,f,g⟩
section
variable {P:Program} {w:World} {K:Qn} {mg:Str->Option Value} {base:Heap} {f:Addr} {fd:FuncData} {ps:List Addr}
theorem zh5:FnScope [aD] [aD] (defScope JQ):=fS
theorem zhc (B:BI mg) (F:Fun K fT fT JQ f fd):FnOk P w K mg base CX0 1 f fd [aD] (Su K):=by
 refine F.ok zh5 (fun vs H Q E h=>?_) (fun _ A _ _ H vs Q E hr h=>?_)
 ·obtain ⟨v,n,b1,b2,rfl,_⟩:=h
  rfl
 obtain ⟨v,n,b1,b2,rfl,ty,k1,k2,q⟩:=h;refine ⟨_,Qe (Qj (pe_and (uC B (pv 0) B.int boot_int) (pe_one (pe_not (uC B (pv 0) B.bool boot_bool))))),?_⟩;refine ⟨_,Ja,_,_,n,b1,Ja,ty,k1,b1,Ja,?_⟩;cases b1 with
 | false=>exact iteF q
 | true =>
  refine iteT ⟨_,Ja,_,_,n,b2,Ja,ty,k2 rfl,b2,Ja,?_⟩;exact q
end
section
variable {P:Program} {w:World} {K:Qn} {mg:Str->Option Value} {base:Heap} {f:Addr} {fd:FuncData} {ps:List Addr}
theorem zhx:FnScope [aD] [aD] (defScope J6):=fS
theorem zg0 {ps:List Addr} (B:BI mg) (G:Got P w K mg base fT [aD] 1 (Su K)) (F:Fun K gq gq J6 f fd):FnOk P w K mg base CX0 2 f fd [aD] (PU K ps):=by
 refine F.ok zhx (fun vs H Q E h=>?_) (fun _ A _ _ H vs Q E hr h=>?_)
 ·obtain ⟨v,d,rfl,_⟩:=h
  rfl
 obtain ⟨v,d,rfl,th,q⟩:=h;refine ⟨_,Qe (Qj (pe_and (aS G hr rfl (Qa (pv 0) Qb)) (pe_one (pe_cmpR op_ge (pv 0) Qg (nomark _))))),?_⟩;obtain ⟨n,b1,b2,ty,k1,k2,y1,y2⟩:=th.whole;refine ⟨_,Ja,v,n,b1,b2,Ja,ty,k1,k2,b1&&!b2,Ja,?_⟩;cases e:(b1&&!b2) with
 | false =>
  refine iteF ?_;rw [y2 e] at q;exact q
 | true =>
  obtain ⟨i,rfl,rfl⟩:=y1 e;exact iteT ⟨_,Ja,_,_,Ja,Ja,q⟩
end
section
variable {P:Program} {w:World} {K:Qn} {mg:Str->Option Value} {base:Heap} {f:Addr} {fd:FuncData}
theorem zhe:FnScope [aD] [aD] (defScope JE):=fS
theorem zfd (B:BI mg) (L:∃ t,mg "LETTERS"=some (.str uu t)) (N:∃ t,mg "LONGEST_NAME"=some (.int 8 t)) (G:Got P w K mg base oR ["text",wQ,"signs"] 1 (Zd K)) (F:Fun K ik ik JE f fd):FnOk P w K mg base CX0 2 f fd [aD] (Sk K):=by
 refine F.ok zhe (fun vs H Q E h=>?_) (fun _ A _ _ H vs Q E hr h=>?_)
 ·obtain ⟨v,d,rfl,_⟩:=h
  rfl
 obtain ⟨v,d,rfl,th,q⟩:=h;obtain ⟨tl,hL⟩:=L;obtain ⟨tn,hN⟩:=N;refine ⟨_,Qc (Qr (PW.pt (Kk (Qp (Qo (uC B (pv 0) B.str boot_str))) (pw_or1 (Qp (pt_chain op_le op_le Qg (Qs call_len_str rfl B.len PySem.boot_len (Qa (pv 0) Qb)) (pe_glob (v:=.int 8) rfl hN ⟨_,Ja⟩)))))) (Qe (Qj pe_bl)) pss_nil)
  (Qe (Qj (pe_cmpR op_eq (aS G hr rfl (Qa (pv 0) (Qa Qg (Qa (pe_glob (v:=.str uu) rfl hL ⟨_,rfl⟩) Qb)))) (pv 0) (nomark _)))),?_⟩
 obtain ⟨n1,b,ty,kb,y1,y2⟩:=th.txt;refine ⟨_,Ja,_,_,n1,b,Ja,ty,kb,b,Ja,?_⟩;cases b with
 | false =>
  refine iteT (iteT ?_);have e:wR d=false:=by
   cases d with
   | str z=>exact absurd rfl (y2 rfl z)
   | _=>simp [wR]
  have:=q H SB.refl;rw [e] at this;exact this
 | true =>
 refine iteF ?_;obtain ⟨z,rfl,rfl,hz⟩:=y1 rfl;have Dy:z.length<=sizeLine:=by have:=sizeLine_eq; omega
 refine ⟨_,Ja,z,Ja,Dy,_,_,Ja,Ja,_,Ja,?_⟩;by_cases h1:1<=z.length
 ·rw [show decide ((1:Int)<=(z.length:Int))=true from Ya (by omega)];refine iteT ⟨_,_,Ja,Ja,_,Ja,?_⟩;by_cases h8:z.length<=8
  ·rw [show decide ((z.length:Int)<=8)=true from Ya (by omega)];refine iteF ?_;refine ⟨_,Ja,z,uu,0,Ja,by omega,Nat.zero_le _,fun e _ he DJ F6=>?_⟩;refine ⟨_,Ja,Ja,?_⟩;have:=q H SB.refl;rw [<- zcv h1 h8 he DJ F6] at this;exact this
  ·rw [show decide ((z.length:Int)<=8)=false from Qz (by omega)];have:=q H SB.refl;rw [ZP fun h=>h8 h.2] at this;exact iteT this
 ·rw [show decide ((1:Int)<=(z.length:Int))=false from Qz (by omega)];have:=q H SB.refl;rw [ZP fun h=>h1 h.1] at this;exact iteF ⟨_,Ja,iteT this⟩
end
section
variable {P:Program} {w:World} {K:Qn} {mg:Str->Option Value} {base:Heap} {f:Addr} {fd:FuncData} {ps:List Addr}
theorem qF:FnScope ZD [cO] (defScope EK):=fS
theorem zgp (B:BI mg) (F:Fun K e7 e7 EK f fd):FnOk P w K mg base CX0 1 f fd [cO] (ZF K):=by
 refine F.ok qF (fun vs H Q E h=>?_) (fun vL A _ s H vs Q E hr h=>?_)
 ·obtain ⟨v,n,b1,rfl,_⟩:=h
  rfl
 obtain ⟨a,xs,ds,rfl,hS,Wt,hok,tE,hz,q⟩:=h;have hu:A.units+200 < cLine:=by have:=hr.un; show A.units+200 < cLine; have h3:(A.deeper (envOfC e7 (defScope EK) s.heap.objs.size f vL)).units=A.units+3:=rfl; omega
 refine ⟨_,Qe (Qj (Qs (cr_all rfl) rfl B.all boot_all (Qa
  (pe_lc (own:=[("low",1),("high",2)]) (g:=gTup K 2 (gCons (gName 1) (gCons (gName 2) gNil))) (tt:=tYes) (te:=tOp (LN K) (tVar 1) (tVar 2)) rfl qF.nd
   (pi_zip rfl B.zip (Qa (pv 0) (Qa (pe_slice sl_list (pv 0) (po_some Qg) po_none) Qb)))
   (blkOk_by (N:=ZD) (sc:=defScope EK) (by decide +kernel))
   (fun _ _ _ _ _=>pg_tup rfl (Qi (pg_name (i:=1) qF.nd rfl (.inl rfl)) (Qi (pg_name (i:=2) qF.nd rfl (.inl rfl)) pgs_nil)))
   (fun _ _ _ _ _=>pts_nil)
   (fun _ _ _ _ _=>pe_cmpR (YJ (by have:=hu; show A.units+3+100 < cLine; omega)) (pv 1) (pv 2) (nomark _))) Qb))),?_⟩
 refine ⟨_,Ja,_,Ja,1,Ja,a,xs,Ja,hS,fun p hp=>?_⟩;rw [OP];have e1:SB [] H (upd H p (.lst (xs.drop 1))):=SB.new hp _;refine ⟨a,p,xs,xs.drop 1,Ja,e1.fG aL hS,SqL.of Qt,fun D hD=>?_⟩;have hpD:p ≠ D:=fun z=>by subst z; rw [Qt] at hD; cases hD
 have dl:ds.length=xs.length:=(DpAll.length Wt).symm;refine lc_it (walk_zip (n:=min xs.length (xs.drop 1).length) rfl) (fun i H2=>SB [D] (upd H p (.lst (xs.drop 1))) H2/\H2 D=some (.lst (((ltsD ds).take i).map V.bl))) ⟨SB.new hD _,Qt⟩ (fun i H2 hi h2=>?_) (fun i x H2 H' hi h2 y=>?_) (fun H2 h2=>?_)
 ·obtain ⟨h2,h3⟩:=h2;have h4:=h2.drop hD;exact ⟨(e1.trans h4).fG aL hS,h4.fG aL (SqL.of Qt)⟩
 ·obtain ⟨h2,h3⟩:=h2;have h4:=e1.trans (h2.drop hD);obtain ⟨T,x1,y1,rfl,hT,rfl,ex,ey⟩:=y;have ey:(xs.drop 1)[i]?=some y1:=ey;rw [List.getElem?_drop,Nat.add_comm] at ey;obtain ⟨d,ed,hd⟩:=DpAll.get Wt ex;obtain ⟨d',ed',Bh⟩:=DpAll.get (i:=i+1) Wt ey;have e5:SB [] H (upd H2 T (.tup [x1,y1])):=h4.trans (SB.new hT _);have m1:=Qu ed;have m2:=Qu ed';have hTD:D ≠ T:=fun z=>by subst z; rw [h3] at hT; cases hT
  refine ⟨T,_,Ja,SqT.of Qt,Ja,_,_,Ja,_,_,Ja,Ja,Ja,?_⟩;refine ⟨_,Ja,_,Ja,d,d',fc e5 _ _ (hok d m1).1 hd,fc e5 _ _ (hok d' m2).1 Bh,tE d m1 d' m2,(hok d m1).2.1,(hok d m1).2.2,_,by rw [upd_ne hTD]; exact h3,?_,?_⟩
  ·have:=Ti ds;rw [Ye,Kx];exact wU (by omega)
  ·refine ⟨(h2.trans (SB.new hT _)).trans (SB.set (by rw [upd_ne hTD]; exact h3) (by simp) _),?_⟩;rw [Qt,Yg,Z6 ds i d d' ed ed'];simp
 ·obtain ⟨h2,h3⟩:=h2;have h4:=e1.trans (h2.drop hD);have e6:(ltsD ds).take (min xs.length (xs.drop 1).length)=ltsD ds:=by
   apply List.take_of_length_le;rw [Ti,List.length_drop];omega
  rw [e6] at h3;exact ⟨D,_,Ja,SqL.of h3,q _ h4⟩
end
section
variable {P:Program} {w:World} {K:Qn} {mg:Str->Option Value} {base:Heap} {f:Addr} {fd:FuncData}
abbrev ziz:List Str:=[gK,"row",aD,bO]
theorem qD:FnScope ziz [gK] (defScope JJ):=fS
theorem zh1 {γ:Type} [DecidableEq γ] {enc:γ->PyData} (F7:∀ g,gJ (enc g)=true) (heq:∀ g h,PyData.eqv (enc g) (enc h)=decide (g=h)) (B:BI mg) (F:Fun K oS oS JJ f fd):FnOk P w K mg base CX0 1 f fd [gK] (ZV K enc):=by
 refine F.ok qD (fun vs H Q E h=>?_) (fun _ A _ _ H vs Q E hr h=>?_)
 ·obtain ⟨a,xs,bs,rfl,_⟩:=h
  rfl
 obtain ⟨a,xs,bs,rfl,hs,hb,hl,hsh,q⟩:=h;have bF:=bC hr;refine ⟨_,Qc (ps_set (i:=1) qD.nd rfl (.inl rfl) (pe_lst Qb))
  (Qc (ps_for PassesOwn.never rfl (pi_list (pv 0)) (pg_tup rfl (Qi (pg_name (i:=2) qD.nd rfl (.inl rfl)) (Qi (pg_name (i:=3) qD.nd rfl (.inl rfl)) pgs_nil)))
   (Qe (Qr (PW.pt (Kl (pt_truth (pv 1) (by intro _; rfl)) (pw_and1 (pt_cmpR (op_eqD (mb hr)) (Qm Ql (Qm ix_list (pv 1) (pe_un un_neg Qg) (fun _ _=>rfl)) Qg (fun _ _=>rfl)) (pv 2) (nomark _)))))
    (Qe (ps_asg (Ka (Qa (pv 2) (Qa (pe_op Ko (Qm Ql (Qm ix_list (pv 1) (pe_un un_neg Qg) (fun _ _=>rfl)) Qg (fun _ _=>rfl)) (pv 3)) Qb))) (pg_sub (pv 1) (pe_un un_neg Qg) set_list)))
    (Qe (Kf (Kn Ki PySem.F.slot_list_append PySem.F.type_list_append mt_append (pv 1) (Qa (Ka (Qa (pv 2) (Qa (pv 3) Qb))) Qb)))))))
  (Qe (Qj (pe_callTy call_tuple_of rfl B.tuple boot_tuple (Qa (pv 1) Qb))))),?_⟩
 refine ⟨(Z0),fun D hD=>?_⟩;have t0:=Jb hD (.lst []);refine ⟨_,Ja,a,Ja,⟨xs,t0.fG aL hs⟩,?_⟩;have xl:=hb.length;refine for_list (K:=K) (a:=a) (xs:=xs) (fun i σ H2=>SB [D] H H2/\∃ acc o2 o3,σ=[some (.ref a),some (.ref D),o2,o3]/\H2 D=some (.lst acc)/\Bears K H2 (mS enc) acc (jn (bs.take i))) ⟨SB.new hD _,[],none,none,Ja,Qt,.nil⟩ (fun i σ H2 hi h2=>(h2.1.drop hD).fG aL hs) (fun i x σ H2 hx h2=>?_) (fun σ H2 h2=>?_)
 ·obtain ⟨s2,acc,o2,o3,rfl,bj,dv⟩:=h2;have j3:=s2.drop hD;obtain ⟨p,ep,gz⟩:=hb.get hx;have pm:=Qu ep;obtain ⟨ad,ux,rfl,rS,Cs⟩:=Y0 gz;have al:=dv.length;have jl:=z7r (bs.take i);rw [Kx] at jl;have nl:=z3l F7;rw [Zb bs i p ep];have zN:=fc j3 _ _ (F7 _) Cs;refine ⟨ad,_,Ja,j3.aH rS,Ja,_,_,Ja,_,_,Ja,Ja,?_⟩
  -- the row ahead: none,or a last one
  have app:fw (jn (bs.take i)) p=jn (bs.take i)++[p]->tDrop (tBM K "list" rAppend (tVar 1) (tCons (tTup (tCons (tVar 2) (tCons (tVar 3) tNil))) tNil)) { nx:=fun σ H2=>SB [D] H H2/\∃ acc o2 o3,σ=[some (.ref a),some (.ref D),o2,o3]/\H2 D=some (.lst acc)/\Bears K H2 (mS enc) acc (fw (jn (bs.take i)) p),rt:=Q } [some (.ref a),some (.ref D),some ux,some (.int p.2)] H2:=by
   intro e;rw [e];refine ⟨_,Ja,.inl ⟨rfl,_,SqL.of bj⟩,_,Ja,_,Ja,(dU),fun t ht=>?_⟩;have t3:=SB.new (ps:=[D]) ht (.tup [ux,.int p.2]);have b0:(upd H2 t (.tup [ux,.int p.2])) D=some (.lst acc):=by rw [upd_ne (ne_of_none bj ht)]; exact bj
   refine ⟨D,acc,_,Ja,Ja,b0,wU (by omega),?_⟩;have t4:=SB.set (ps:=[D]) b0 (by simp) (.lst (acc++[.ref t]));exact ⟨(s2.trans t3).trans t4,_,_,_,Ja,Qt,Bears.append ((dv.sb t3 nl).sb t4 nl) (.cons (Sz (t4.aH (SqT.of Qt)) (fc t4 _ _ (F7 _) (fc t3 _ _ (F7 _) zN))) .nil)⟩
  rcases List.eq_nil_or_concat (jn (bs.take i)) with he | ⟨js,z,he⟩
  ·rw [he] at dv app;cases dv;refine ⟨_,Ja,_,.inl ⟨[],SqL.of bj,Ja⟩,iteF (iteF ?_)⟩;rw [he];exact app rfl
  ·rw [List.concat_eq_append] at he;rw [he] at dv app;rw [he];obtain ⟨us,u,rfl,I0,hu⟩:=dv.snoc;obtain ⟨az,uz,rfl,ri,VR⟩:=Y0 hu;have zsh:SeqAt.shaped (enc z.1)=true:=by
    obtain ⟨q2,wF,eq2⟩:=EM (bs.take i) z (by rw [he]; simp);rw [<- eq2];exact hsh q2 (List.mem_of_mem_take wF)
   refine ⟨_,Ja,_,.inl ⟨us++[.ref az],SqL.of bj,Ja⟩,?_⟩;have e0:(!(us++[V.ref az]).isEmpty)=true:=by simp
   rw [e0];refine iteT ?_;refine ⟨_,Ja,1,Ja,D,_,_,_,Ja,Ja,SqL.of bj,IC,az,_,_,_,Ja,Ja,ri,atI_nat (j:=0) rfl,_,Ja,enc z.1,enc p.1,VR,zN,zsh,hsh p pm,_,Ja,?_⟩;rw [heq];by_cases hz:z.1=p.1
   ·rw [show decide (z.1=p.1)=true by simp [hz]];refine iteT ?_;refine ⟨_,Ja,_,Ja,1,Ja,D,_,_,_,Ja,Ja,SqL.of bj,IC,az,_,_,_,Ja,Ja,ri,atI_nat (j:=1) rfl,_,Ja,_,_,Ja,Ja,(dU),fun t ht=>?_⟩;have t3:=SB.new (ps:=[D]) ht (.tup [ux,.int (z.2+p.2)]);have b0:(upd H2 t (.tup [ux,.int (z.2+p.2)])) D=some (.lst (us++[.ref az])):=by rw [upd_ne (ne_of_none bj ht)]; exact bj
    refine ⟨_,Ja,1,Ja,D,_,_,us.length,Ja,Ja,b0,zd8,?_⟩;rw [zcm];have t4:=SB.set (ps:=[D]) b0 (by simp) (.lst (us++[.ref t]));refine ⟨(s2.trans t3).trans t4,_,_,_,Ja,Qt,?_⟩;rw [rZ,if_pos hz];exact Bears.append ((I0.sb t3 nl).sb t4 nl) (.cons (Sz (t4.aH (SqT.of Qt)) (fc t4 _ _ (F7 _) (fc t3 _ _ (F7 _) zN))) .nil)
   ·rw [show decide (z.1=p.1)=false by simp [hz]];refine iteF ?_;exact app (by rw [rZ,if_neg hz])
 ·obtain ⟨s2,acc,o2,o3,rfl,bj,dv⟩:=h2;rw [xl,Yh] at dv;refine ⟨_,Ja,D,acc,Ja,.inl ⟨SqL.of bj,fun t ht=>?_⟩⟩;have t3:=Jb ht (.tup acc);exact q _ _ _ ((s2.drop hD).trans t3) (SqT.of Qt) (dv.sb t3 (z3l F7))
abbrev ZI:List Str:=[gK,aD,aF,bO]
theorem qA:FnScope ZI [gK,aD] (defScope Io):=fS
theorem zgr (B:BI mg) (F:Fun K ij ij Io f fd):FnOk P w K mg base CX0 1 f fd [gK,aD] (SQ K):=by
 refine F.ok qA (fun vs H Q E h=>?_) (fun _ A _ _ H vs Q E hr h=>?_)
 ·obtain ⟨v,u,l,e,rfl,_⟩:=h
  rfl
 obtain ⟨v,u,l,e,rfl,hv,hu,hd,hd2,hp,q⟩:=h;have bF:=bC hr;refine ⟨_,Qe (Qj (Qs (cr_sum rfl) rfl B.sum boot_sum (Qa
  (pe_lc (own:=[(aF,2),(bO,3)]) (g:=gTup K 2 (gCons (gName 2) (gCons (gName 3) gNil))) (tt:=tTest (tOp (rEqD K) (tVar 2) (tVar 1))) (te:=tVar 3) rfl qA.nd (pi_tup (pv 0))
   (blkOk_by (N:=ZI) (sc:=defScope Io) (by decide +kernel))
   (fun _ _ _ _ _=>pg_tup rfl (Qi (pg_name (i:=2) qA.nd rfl (.inl rfl)) (Qi (pg_name (i:=3) qA.nd rfl (.inl rfl)) pgs_nil)))
   (fun _ _ _ _ _=>pts_one (pt_cmpR (op_eqD (mb hr)) (pv 2) (pv 1) (nomark _)))
   (fun _ _ _ _ _=>pv 3)) Qb))),?_⟩
 obtain ⟨a,xs,rfl,hs,hb⟩:=je hv;have bl:=hb.length;have lp:=l.aM;rw [<- Lad.a7] at lp;refine ⟨_,Ja,a,Ja,⟨xs,hs⟩,fun D hD=>?_⟩;refine lc_it (walk_tup (xs:=xs)) (fun i H2=>SB [D] H H2/\H2 D=some (.lst ((((l.ps.take i).filter fun p=>decide (p.1=e)).map (·.2)).map V.int))) ⟨SB.new hD _,Qt⟩ (fun i H2 hi h2=>(h2.1.drop hD).aH hs) (fun i x H2 H' hi h2 y=>?_) (fun H2 h2=>?_)
 ·obtain ⟨s2,bj⟩:=h2;obtain ⟨rfl,ex⟩:=y;have j3:=s2.drop hD;obtain ⟨b,eb,Cy⟩:=hb.get ex;obtain ⟨ad,ux,rfl,dS,vB⟩:=jW Cy;have bd:=l.av b (Qu eb);refine ⟨ad,_,Ja,j3.aH dS,Ja,_,_,Ja,_,_,Ja,Ja,Ja,?_⟩;refine ⟨_,Ja,_,Ja,b.1.enc,e.enc,vB.sb j3,hu.sb j3,Lad.aA (by omega),Lad.aA (by omega),_,Ja,?_⟩;rw [Lad.a5];have fl:=List.length_filter_le (fun p:Lad × Int=>decide (p.1=e)) (l.ps.take i);rw [Kx] at fl;by_cases he:b.1=e
  ·rw [show decide (b.1=e)=true by simp [he]];refine iteT ?_;refine ⟨_,Ja,_,bj,?_,?_⟩
   ·rw [Ye,Ye]; exact wU (by omega)
   ·refine ⟨s2.trans (SB.set bj (by simp) _),?_⟩;rw [Qt,Yg,eb,List.filter_append];simp [he]
  ·rw [show decide (b.1=e)=false by simp [he]];refine iteF ?_;refine ⟨s2,?_⟩;rw [bj,Yg,eb,List.filter_append];simp [he]
 ·obtain ⟨s2,bj⟩:=h2;rw [bl,Yh] at bj;exact ⟨D,_,Ja,SqL.of bj,q _ (s2.drop hD)⟩
theorem uL:FnScope ["text",wQ,"signs","end"] ["text",wQ,"signs"] (defScope J2):=fS
theorem zfm (B:BI mg) (F:Fun K oR oR J2 f fd):FnOk P w K mg base CX0 1 f fd ["text",wQ,"signs"] (Zd K):=by
 refine F.ok uL (fun vs H Q E h=>?_) (fun _ A _ _ H vs Q E hr h=>?_)
 ·obtain ⟨z,y,k,rfl,_⟩:=h
  rfl
 obtain ⟨z,y,k,rfl,hz,hk,q⟩:=h;refine ⟨_,Qc (ps_set (i:=3) uL.nd rfl (.inl rfl) (pv 1))
  (Qc (ps_while PassesOwn.never (PW.pt (Kl (pt_cmpR op_lt (pv 3) (Qs call_len_str rfl B.len PySem.boot_len (Qa (pv 0) Qb)) (nomark _)) (pw_and1 (pt_cmpR op_in_sign (Qm ix_str (pv 0) (pv 3) (fun _ _=>rfl)) (pv 2) (by rfl)))))
   (Qe (ps_aug (i:=3) uL.nd rfl (.inl rfl) Qg ip_add)))
  (Qe (Qj (pe_slice sl_str (pv 0) (po_some (pv 1)) (po_some (pv 3)))))),?_⟩
 have Dy:z.length<=sizeLine:=by have:=sizeLine_eq; omega
 have hl:=P9 z;refine ⟨_,Ja,?_⟩;refine ⟨fun mm σ H2=>∃ e:Nat,mm=z.length-e/\H2=H/\σ=[some (.str z),some (.int (k:Int)),some (.str y),some (.int (e:Int))]/\k<=e/\e<=z.length/\(∀ j c,k<=j->j < e->z.cps.toList[j]?=some c->c ∈ y.cps.toList),⟨_,k,Ja,Ja,Ja,Yc _,hk,fun j c h1 h2 _=>by omega⟩,fun mm σ H2 h2=>?_⟩;obtain ⟨e,rfl,rfl,rfl,ke,el,DJ⟩:=h2;refine ⟨_,Ja,_,Ja,z,Ja,Dy,_,_,Ja,Ja,_,Ja,?_⟩;have fin:(∀ c,z.cps.toList[e]?=some c->c ∉ y.cps.toList)->Q (.str (cutS z (some (k:Int)) (some (e:Int)))) H2:=fun ho=>q e ke el DJ ho;by_cases cZ:e < z.length
 ·rw [show decide ((e:Int) < (z.length:Int))=true from Ya (by omega)];refine iteT ?_;obtain ⟨c,hc⟩:∃ c,z.cps.toList[e]?=some c:=⟨_,Kp (by omega)⟩;refine ⟨_,Ja,_,Ja,z,_,c,Ja,Ja,Dy,QD hc,_,Ja,c,y,Ja,Ja,_,Ja,?_⟩;by_cases hm:c ∈ y.cps.toList
  ·rw [Ya hm];refine iteT ?_;refine ⟨_,fun σ' H' z=>z,?_⟩;refine ⟨_,Ja,_,_,Ja,Ja,z.length-(e+1),by omega,e+1,Ja,Ja,Ja,by omega,by omega,fun j c' h1 h2 h3=>?_⟩;rcases Nat.lt_or_ge j e with h | h
   ·exact DJ j c' h1 h h3
   ·have:j=e:=by omega
    subst this;rw [hc] at h3; cases h3; exact hm
  ·rw [Qz hm];refine iteF ?_;refine ⟨_,Ja,_,Ja,_,Ja,_,Ja,_,Ja,z,Ja,Dy,fin fun c' h'=>?_⟩;rw [hc] at h'; cases h'; exact hm
 ·rw [show decide ((e:Int) < (z.length:Int))=false from Qz (by omega)];refine iteF (iteF ?_);refine ⟨_,Ja,_,Ja,_,Ja,_,Ja,_,Ja,z,Ja,Dy,fin fun c' h'=>?_⟩;have:=(Kq h').1;omega
theorem zgo:FnScope [aD] [aD] (defScope J7):=fS
theorem zcc {ps:List Str}:FnOk P w K mg base CX0 k f fd ps (KZ K 0):=vW fun vs H Q E ⟨v,d,_,_,h,_⟩=>by omega
theorem zhj (B:BI mg) (GN:Got P w K mg base ik [aD] 2 (Sk K)) (G:Got P w K mg base dV [aD] (n+3) (IH K n)) (F:Fun K fZ fZ J7 f fd) :
  FnOk P w K mg base CX0 (n+4) f fd [aD] (KZ K (n+1)):=by
 refine F.ok zgo (fun vs H Q E h=>?_) (fun _ A _ _ H vs Q E hr h=>?_)
 ·obtain ⟨v,l,rfl,_⟩:=h
  rfl
 obtain ⟨v,d,rfl,th,hd,h80,hw,q⟩:=h;refine ⟨_,Qe (Qj (pe_and (uC B (pv 0) B.tuple boot_tuple) (pe_and (pe_cmpR op_eq (Qs call_len_seq rfl B.len PySem.boot_len (Qa (pv 0) Qb)) Qg (nomark _))
  (pe_and (aS GN (Hm hr) rfl (Qa (Qm Ql (pv 0) Qg (fun _ _=>rfl)) Qb)) (pe_one (aS G hr rfl (Qa (Qm Ql (pv 0) Qg (fun _ _=>rfl)) Qb))))))),?_⟩
 obtain ⟨n1,b,ty,kb,y1,y2⟩:=th.ty;refine ⟨_,Ja,_,_,n1,b,Ja,ty,kb,b,Ja,?_⟩;cases b with
 | false =>
  refine iteF ?_;have e:mR d=false:=by
   cases d with
   | tuple ds=>exact absurd rfl (y2 rfl ds)
   | _=>simp [mR]
  have:=q H SB.refl;rw [e] at this;exact this
 | true =>
 refine iteT ?_;obtain ⟨a,xs,ds,rfl,rfl,hs,ha⟩:=y1 rfl;refine ⟨_,Ja,a,xs,Ja,.inr hs,Ja,_,Ja,?_⟩;have hl:=TgAll.length ha;refine ite2 (fun c=>?_) (fun c=>?_)
 ·have c':V.int (xs.length:Nat)=V.int 2:=Ks c
  injection c' with c'
  have c2:xs.length=2:=by omega
  cases ha with
  | nil=>simp at c2
  | cons t1 ta =>
   cases ta with
   | nil=>simp at c2
   | cons t2 ta =>
    cases ta with
    | cons t3 ta=>simp at c2
    | nil =>
     rename_i v1 d1 v2 d2;have q1:d2.depth < PyData.depth (.tuple [d1,d2]):=by simp only [PyData.depth,PyData.depthAll]; omega
     have q2:wide d2<=wide (.tuple [d1,d2]):=by simp only [wide,uB]; omega
     refine ⟨_,Ja,a,_,_,_,Ja,Ja,hs,atI_nat (j:=0) rfl,v1,d1,Ja,t1,fun H1 h1=>?_⟩;refine ⟨_,Ja,?_⟩;cases e1:wR d1 with
     | false =>
      refine iteF ?_;have:=q H1 h1;have e:mR (.tuple [d1,d2])=false:=by simp [mR,sk,e1]
      rw [e] at this;exact this
     | true =>
      refine iteT ?_;refine ⟨_,Ja,a,_,_,_,Ja,Ja,h1.aH hs,atI_nat (j:=1) rfl,v2,d2,Ja,AR h1 t2,by omega,by omega,by omega,fun H2 h2=>?_⟩;have:=q H2 (h1.trans h2);have e:mR (.tuple [d1,d2])=jU d2:=by simp [mR,sk,uH,e1]
      rw [e] at this;exact this
 ·have c':¬ V.int (xs.length:Nat)=V.int 2:=of_decide_eq_false (Bool.eq_false_iff.mpr c);have c2:¬ xs.length=2:=fun z=>c' (by rw [z]; rfl);have e:mR (.tuple ds)=false:=by
   cases e:mR (.tuple ds) with
   | false=>rfl
   | true =>
    obtain ⟨t,e2⟩:=ZN _ e
    injection e2 with e2
    rw [e2] at hl;exact absurd hl c2
  have:=q H SB.refl;rw [e] at this;exact this
abbrev Yw:List Str:=[aD,"pair"]
theorem uQ:FnScope Yw [aD] (defScope HX):=fS
theorem zcq {ps:List Str}:FnOk P w K mg base CX0 k f fd ps (IH K 0):=vW fun vs H Q E ⟨v,d,_,_,h,_⟩=>by omega
theorem zb9 (bs:List (Tr × Int)):(bs.map Gr.aC).map pA=bs.map fun p=>Gr.aO p.1:=by rw [List.map_map]; rfl
theorem z4w:∀ bs:List (Tr × Int),kT (bs.map fun p=>Gr.aO p.1)=true
 | []=>by simp [kT]
 | p::r=>by rw [Ky,kT,z4w r,Gr.a6]; rfl
theorem zfl (B:BI mg) (GR:Got P w K mg base e7 [cO] 1 (ZF K)) (G:Got P w K mg base a8 [cO] (n+3) (Lb K true n)) (F:Fun K dV dV HX f fd) :
  FnOk P w K mg base CX0 (n+4) f fd [aD] (IH K (n+1)):=by
 refine F.ok uQ (fun vs H Q E h=>?_) (fun _ A _ _ H vs Q E hr h=>?_)
 ·obtain ⟨v,l,rfl,_⟩:=h
  rfl
 obtain ⟨v,d,rfl,th,hd,h80,hw,q⟩:=h;refine ⟨_,Qc (Qr (PW.pt (Kk (Qp (Qo (uC B (pv 0) B.tuple boot_tuple))) (pw_or1 (Qp (Qo (aS G hr rfl (Qa (pv 0) Qb))))))) (Qe (Qj pe_bl)) pss_nil)
  (Qe (Qj (aS GR (Hm hr) rfl (Qa (pe_lc (own:=[("pair",1)]) (g:=gName 1) (tt:=tYes) (te:=tOp (rIxT K) (tVar 1) (tC (.int 0))) rfl uQ.nd
   (pi_tup (pv 0))
   (blkOk_by (N:=Yw) (sc:=defScope HX) (by decide +kernel))
   (fun _ _ _ _ _=>pg_name (i:=1) uQ.nd rfl (.inl rfl))
   (fun _ _ _ _ _=>pts_nil)
   (fun _ _ _ _ _=>Qm Ql (pv 1) Qg (fun _ _=>rfl))) Qb)))),?_⟩
 obtain ⟨n1,b,ty,kb,y1,y2⟩:=th.ty;refine ⟨_,Ja,_,_,n1,b,Ja,ty,kb,b,Ja,?_⟩;cases b with
 | false =>
  refine iteT (iteT ?_);have e:jU d=false:=by
   cases d with
   | tuple ds=>exact absurd rfl (y2 rfl ds)
   | _=>simp [jU]
  have:=q H SB.refl;rw [e] at this;exact this
 | true =>
 refine iteF ?_;obtain ⟨a,xs,ds,rfl,rfl,hs,ha⟩:=y1 rfl;have hl:=TgAll.length ha;have m3:PyData.depth (.tuple ds)=PyData.depthAll ds+1:=by simp [PyData.depth]
 refine ⟨_,Ja,a,xs,ds,Ja,by simpa using hs,ha,by omega,by omega,hw,fun H2 h2=>⟨_,Ja,?_⟩⟩;cases e1:kr ds with
 | false =>
  refine iteT ?_;have:=q H2 h2;rw [jU,e1] at this;exact this
 | true =>
  refine iteF ?_;obtain ⟨g,rfl⟩:=SW ds e1;have jR:GA K H (.ref a) g:=Dp.tup hs (EJ g ha);obtain ⟨a',II,e',wD,hb⟩:=vX (jR.sb h2);cases e';have hlen:=hb.length;have gl:g.encs.length=g.ps.length:=by rw [Gr.d9,Ye]
  rw [Te] at hw;refine ⟨_,Ja,a,Ja,⟨II,wD⟩,fun D hD=>?_⟩;refine lc_it (walk_tup (xs:=II)) (fun i H3=>SB [D] H2 H3/\∃ acc,H3 D=some (.lst acc)/\DpAll K H3 acc ((g.ps.take i).map fun p=>Gr.aO p.1)) ⟨SB.new hD _,[],Qt,.nil⟩ (fun i H3 hi h3=>(h3.1.drop hD).aH wD) (fun i x H3 H' hi h3 y=>?_) (fun H3 h3=>?_)
  ·obtain ⟨h3,acc,h4,h5⟩:=h3;obtain ⟨rfl,ex⟩:=y;obtain ⟨p,ep,gz⟩:=hb.get ex;obtain ⟨ad,bd,ux,rfl,rS,jO,Cs,MX⟩:=rY gz;have h6:=h3.drop hD;have F9:=DpAll.length h5;refine ⟨rfl,?_⟩;refine ⟨_,Ja,ad,_,_,_,Ja,Ja,h6.aH rS,atI_nat (j:=0) rfl,acc,h4,?_,?_⟩
   ·rw [F9,Ye,Kx];exact wU (by omega)
   ·have h7:=SB.set (ps:=[D]) h4 (by simp) (.lst (acc++[.ref bd]));refine ⟨h3.trans h7,_,Qt,?_⟩;rw [Yg,ep,Yj];exact DpAll.append (S0 h7 _ _ (z4w _) h5) (.cons (fc h7 _ _ (Gr.a6 _) (fc h6 _ _ (Gr.a6 _) MX)) .nil)
  ·obtain ⟨vF,acc,h4,h5⟩:=h3;rw [hlen,Yh] at h5;have h6:=vF.drop hD;have F9:=DpAll.length h5;refine ⟨D,acc,g.ps.map fun p=>Gr.aO p.1,Ja,SqL.of h4,h5,?_,?_,?_,fun H9 h9=>?_⟩
   ·intro d Bh;obtain ⟨p1,m1,rfl⟩:=Qx Bh;have hd2:(Gr.aC p1).depth<=PyData.depthAll g.encs:=PyData.depth_le_depthAll _ _ (by rw [Gr.d9]; exact List.mem_map_of_mem m1);have Ji:(Gr.aO p1.1).depth < (Gr.aC p1).depth:=by
     show _ < (PyData.tuple [Gr.aO p1.1,.int p1.2]).depth;simp only [PyData.depth,PyData.depthAll]; omega
    exact ⟨Gr.a6 _,(fun z:Gr.aO p1.1=.none=>by simp [Gr.aO] at z),by omega⟩
   ·intro d Bh d2 hd2;obtain ⟨p1,_,rfl⟩:=Qx Bh;obtain ⟨p2,_,rfl⟩:=Qx hd2;exact Orderly.al (enc:=Gr.aO) _ _
   ·rw [F9,Ye]; omega
   ·have:=q H9 ((h2.trans h6).trans h9);rw [jU,e1,Bool.true_and,Gr.d9,zb9] at this;exact this
abbrev z9i:List Str:=[cO,aD]
theorem qH:FnScope z9i [cO] (defScope Ii):=fS
theorem zcp {ps:List Str} {tp:Bool}:FnOk P w K mg base CX0 k f fd ps (Lb K tp 0):=vW fun vs H Q E ⟨a,xs,ds,_,_,_,h,_⟩=>by omega
theorem K8:∀ ds:List PyData,kr ds=ds.all jS
 | []=>by rw [kr]; rfl
 | d::ds=>by rw [kr,K8 ds]; rfl
theorem zft (B:BI mg) (GM:Got P w K mg base gq [aD] 2 (PU K [])) (G:Got P w K mg base fZ [aD] (n+3) (KZ K n)) (F:Fun K a8 a8 Ii f fd) :
  FnOk P w K mg base CX0 (n+4) f fd [cO] (Lb K true (n+1)):=by
 refine F.ok qH (fun vs H Q E h=>?_) (fun _ A _ _ H vs Q E hr h=>?_)
 ·obtain ⟨a,xs,ds,rfl,_⟩:=h
  rfl
 obtain ⟨a,xs,ds,rfl,hs,ha,hd,h79,hw,q⟩:=h;refine ⟨_,Qc (ps_for PassesOwn.never rfl (pi_tup (pv 0)) (pg_name (i:=1) qH.nd rfl (.inl rfl))
   (Qc (Qr (PW.pt (Kk (Qp (Qo (uC B (pv 1) B.tuple boot_tuple))) (pw_or1 (pt_cmpR op_ne (Qs call_len_seq rfl B.len PySem.boot_len (Qa (pv 1) Qb)) Qg (nomark _))))) (Qe (Qj pe_bl)) pss_nil)
   (Qe (Qr (PW.pt (Kk (Qp (Qo (aS G hr rfl (Qa (Qm Ql (pv 1) Qg (fun _ _=>rfl)) Qb)))) (pw_or1 (Qp (Qo (aS GM (Hm hr) rfl (Qa (Qm Ql (pv 1) Qg (fun _ _=>rfl)) Qb))))))) (Qe (Qj pe_bl)) pss_nil))))
  (Qe (Qj pe_bl)),?_⟩
 have hs:SqT K H a xs:=by simpa using hs
 have hl:=TgAll.length ha;rw [Te] at hw;refine ⟨_,Ja,a,Ja,⟨xs,hs⟩,?_⟩;refine for_tup (K:=K) (a:=a) (xs:=xs) (fun i σ H2=>SB [] H H2/\(∃ o,σ=[some (.ref a),o])/\(ds.take i).all jS=true) ⟨SB.refl,⟨none,Ja⟩,by simp⟩ (fun i σ H2 hi h2=>h2.1.aH hs) (fun i x σ H2 hx h2=>?_) (fun σ H2 h2=>?_)
 ·obtain ⟨h2,⟨o,rfl⟩,h3⟩:=h2;obtain ⟨dx,ex,tx⟩:=TgAll.get ha hx;have mx:=Qu ex;have m1:=z3o ex;have m2:=SV _ _ mx;have no:jS dx=false->∀ H',SB [] H2 H'->Q (.bl false) H':=fun e H' s'=>by
   have:=q H' (h2.trans s');have e2:kr ds=false:=by
    rw [K8,List.all_eq_false];exact ⟨dx,mx,by rw [e]; exact Bool.false_ne_true⟩
   rw [e2] at this;exact this
  obtain ⟨n1,b,ty,kb,y1,y2⟩:=(AR h2 tx).ty;refine ⟨_,Ja,_,_,n1,b,Ja,ty,kb,b,Ja,?_⟩;cases b with
  | false =>
   refine iteT (iteT (no ?_ _ SB.refl));cases dx with
   | tuple ds=>exact absurd rfl (y2 rfl ds)
   | _=>simp [jS]
  | true =>
  refine iteF ?_;obtain ⟨b1,ys,es,rfl,rfl,lN,tG⟩:=y1 rfl;refine ⟨_,Ja,b1,ys,Ja,.inr lN,Ja,_,Ja,?_⟩;have kP:=TgAll.length tG;by_cases c2:ys.length=2
  ·rw [show (!decide (V.int (ys.length:Nat)=V.int 2))=false by rw [c2]; rfl];refine iteF ?_;cases tG with
   | nil=>simp at c2
   | cons t1 ta =>
    cases ta with
    | nil=>simp at c2
    | cons t2 ta =>
     cases ta with
     | cons t3 ta=>simp at c2
     | nil =>
      rename_i v1 d1 v2 d2;have q1:d1.depth < PyData.depth (.tuple [d1,d2]):=by simp only [PyData.depth,PyData.depthAll]; omega
      have q2:wide d1<=wide (.tuple [d1,d2]):=by simp only [wide,uB]; omega
      refine ⟨_,Ja,b1,_,_,_,Ja,Ja,lN,atI_nat (j:=0) rfl,v1,d1,Ja,t1,by omega,by omega,by omega,fun H3 vF=>?_⟩;refine ⟨_,Ja,?_⟩;cases e1:mR d1 with
      | false=>exact iteT (iteT (no (by simp [jS,pz,e1]) _ vF))
      | true =>
       refine iteF ?_;refine ⟨_,Ja,b1,_,_,_,Ja,Ja,vF.aH lN,atI_nat (j:=1) rfl,v2,AQ d2,Ja,(AR vF t2).th,_,Ja,?_⟩;rw [z6w];have e:jS (.tuple [d1,d2])=rQ d2:=by simp [jS,pz,ud,e1]
       cases e2:rQ d2 with
       | false=>exact iteT (no (by rw [e,e2]) _ vF)
       | true =>
        refine iteF ⟨h2.trans vF,⟨_,Ja⟩,?_⟩;rw [Yg,ex,List.all_append,h3];simp [e,e2]
  ·rw [show (!decide (V.int (ys.length:Nat)=V.int 2))=true by rw [Qz (fun z=>by injection z with z; omega)]; rfl];refine iteT (no ?_ _ SB.refl);cases e:jS (.tuple es) with
   | false=>rfl
   | true =>
    obtain ⟨t,i,e2,_⟩:=SE _ e
    injection e2 with e2
    rw [e2] at kP;exact absurd kP c2
 ·obtain ⟨h2,⟨o,rfl⟩,h3⟩:=h2;rw [hl,Yh,<- K8] at h3;have:=q H2 h2;rw [h3] at this;exact this
theorem zb4 (B:BI mg) (GM:Got P w K mg base gq [aD] 2 (PU K [])) (G:Got P w K mg base fZ [aD] (n+3) (KZ K n)) (F:Fun K a8 a8 Ii f fd) :
  FnOk P w K mg base CX0 (n+4) f fd [cO] (Lb K false (n+1)):=by
 refine F.ok qH (fun vs H Q E h=>?_) (fun _ A _ _ H vs Q E hr h=>?_)
 ·obtain ⟨a,xs,ds,rfl,_⟩:=h
  rfl
 obtain ⟨a,xs,ds,rfl,hs,ha,hd,h79,hw,q⟩:=h;refine ⟨_,Qc (ps_for PassesOwn.never rfl (pi_list (pv 0)) (pg_name (i:=1) qH.nd rfl (.inl rfl))
   (Qc (Qr (PW.pt (Kk (Qp (Qo (uC B (pv 1) B.tuple boot_tuple))) (pw_or1 (pt_cmpR op_ne (Qs call_len_seq rfl B.len PySem.boot_len (Qa (pv 1) Qb)) Qg (nomark _))))) (Qe (Qj pe_bl)) pss_nil)
   (Qe (Qr (PW.pt (Kk (Qp (Qo (aS G hr rfl (Qa (Qm Ql (pv 1) Qg (fun _ _=>rfl)) Qb)))) (pw_or1 (Qp (Qo (aS GM (Hm hr) rfl (Qa (Qm Ql (pv 1) Qg (fun _ _=>rfl)) Qb))))))) (Qe (Qj pe_bl)) pss_nil))))
  (Qe (Qj pe_bl)),?_⟩
 have hs:SqL K H a xs:=by simpa using hs
 have hl:=TgAll.length ha;rw [Te] at hw;refine ⟨_,Ja,a,Ja,⟨xs,hs⟩,?_⟩;refine for_list (K:=K) (a:=a) (xs:=xs) (fun i σ H2=>SB [] H H2/\(∃ o,σ=[some (.ref a),o])/\(ds.take i).all jS=true) ⟨SB.refl,⟨none,Ja⟩,by simp⟩ (fun i σ H2 hi h2=>h2.1.fG aL hs) (fun i x σ H2 hx h2=>?_) (fun σ H2 h2=>?_)
 ·obtain ⟨h2,⟨o,rfl⟩,h3⟩:=h2;obtain ⟨dx,ex,tx⟩:=TgAll.get ha hx;have mx:=Qu ex;have m1:=z3o ex;have m2:=SV _ _ mx;have no:jS dx=false->∀ H',SB [] H2 H'->Q (.bl false) H':=fun e H' s'=>by
   have:=q H' (h2.trans s');have e2:kr ds=false:=by
    rw [K8,List.all_eq_false];exact ⟨dx,mx,by rw [e]; exact Bool.false_ne_true⟩
   rw [e2] at this;exact this
  obtain ⟨n1,b,ty,kb,y1,y2⟩:=(AR h2 tx).ty;refine ⟨_,Ja,_,_,n1,b,Ja,ty,kb,b,Ja,?_⟩;cases b with
  | false =>
   refine iteT (iteT (no ?_ _ SB.refl));cases dx with
   | tuple ds=>exact absurd rfl (y2 rfl ds)
   | _=>simp [jS]
  | true =>
  refine iteF ?_;obtain ⟨b1,ys,es,rfl,rfl,lN,tG⟩:=y1 rfl;refine ⟨_,Ja,b1,ys,Ja,.inr lN,Ja,_,Ja,?_⟩;have kP:=TgAll.length tG;by_cases c2:ys.length=2
  ·rw [show (!decide (V.int (ys.length:Nat)=V.int 2))=false by rw [c2]; rfl];refine iteF ?_;cases tG with
   | nil=>simp at c2
   | cons t1 ta =>
    cases ta with
    | nil=>simp at c2
    | cons t2 ta =>
     cases ta with
     | cons t3 ta=>simp at c2
     | nil =>
      rename_i v1 d1 v2 d2;have q1:d1.depth < PyData.depth (.tuple [d1,d2]):=by simp only [PyData.depth,PyData.depthAll]; omega
      have q2:wide d1<=wide (.tuple [d1,d2]):=by simp only [wide,uB]; omega
      refine ⟨_,Ja,b1,_,_,_,Ja,Ja,lN,atI_nat (j:=0) rfl,v1,d1,Ja,t1,by omega,by omega,by omega,fun H3 vF=>?_⟩;refine ⟨_,Ja,?_⟩;cases e1:mR d1 with
      | false=>exact iteT (iteT (no (by simp [jS,pz,e1]) _ vF))
      | true =>
       refine iteF ?_;refine ⟨_,Ja,b1,_,_,_,Ja,Ja,vF.aH lN,atI_nat (j:=1) rfl,v2,AQ d2,Ja,(AR vF t2).th,_,Ja,?_⟩;rw [z6w];have e:jS (.tuple [d1,d2])=rQ d2:=by simp [jS,pz,ud,e1]
       cases e2:rQ d2 with
       | false=>exact iteT (no (by rw [e,e2]) _ vF)
       | true =>
        refine iteF ⟨h2.trans vF,⟨_,Ja⟩,?_⟩;rw [Yg,ex,List.all_append,h3];simp [e,e2]
  ·rw [show (!decide (V.int (ys.length:Nat)=V.int 2))=true by rw [Qz (fun z=>by injection z with z; omega)]; rfl];refine iteT (no ?_ _ SB.refl);cases e:jS (.tuple es) with
   | false=>rfl
   | true =>
    obtain ⟨t,i,e2,_⟩:=SE _ e
    injection e2 with e2
    rw [e2] at kP;exact absurd kP c2
 ·obtain ⟨h2,⟨o,rfl⟩,h3⟩:=h2;rw [hl,Yh,<- K8] at h3;have:=q H2 h2;rw [h3] at this;exact this
theorem uN:FnScope [ao,"found","pair"] [ao] (defScope JI):=fS
theorem zfj (G:Got P w K mg base bx [ao] n (EO K n)) (F:Fun K bx bx JI f fd):FnOk P w K mg base CX0 (n+1) f fd [ao] (EO K (n+1)):=by
 refine F.ok uN (fun vs H Q E h=>?_) (fun _ A _ _ H vs Q E hr h=>?_)
 ·obtain ⟨v,g,rfl,_⟩:=h
  rfl
 obtain ⟨v,g,rfl,hg,hd,hp,q⟩:=h;refine ⟨_,Qc (ps_set (i:=1) uN.nd rfl (.inl rfl) (pe_lst Qb))
  (Qc (ps_for PassesOwn.never rfl (pi_tup (pv 0)) (pg_name (i:=2) uN.nd rfl (.inl rfl))
   (Qc (Kf (Kn Ki PySem.F.slot_list_append PySem.F.type_list_append mt_append (pv 1) (Qa (pv 2) Qb)))
   (Qe (Kf (Kn Ki PySem.F.slot_list_extend PySem.F.type_list_extend mt_extend (pv 1) (Qa (aS G hr rfl (Qa (Qm Ql (Qm Ql (pv 2) Qg (fun _ _=>rfl)) Qg (fun _ _=>rfl)) Qb)) Qb))))))
  (Qe (Qj (pv 1)))),?_⟩
 obtain ⟨a,xs,rfl,hs,hb⟩:=vX hg;have bl:=hb.length;have wl:=g.bZ;refine ⟨(Z0),fun D hD=>?_⟩;refine ⟨_,Ja,a,Ja,⟨xs,(Jb hD _).aH hs⟩,?_⟩;refine for_it (walk_tup (xs:=xs)) (fun i σ H2=>SB [D] H H2/\∃ us o2,σ=[some (.ref a),some (.ref D),o2]/\H2 D=some (.lst us)/\Bears K H2 Gr.aC us ((g.ps.take i).flatMap fun p=>p::p.1.2.within)) ⟨SB.new hD _,[],none,Ja,Qt,.nil⟩ (fun i σ H2 hi h2=>(h2.1.drop hD).aH hs) (fun i x σ H2 H' hi h2 y=>?_) (fun σ H2 h2=>?_)
 ·obtain ⟨s2,us,o2,rfl,bj,dv⟩:=h2;obtain ⟨rfl,ex⟩:=y;obtain ⟨p,ep,gz⟩:=hb.get ex;have pm:=Qu ep;obtain ⟨ad,td,ux,rfl,dS,rT,jR,_⟩:=rY gz;have ul:=dv.length;have iL:(g.ps.take (i+1)).flatMap (fun p=>p::p.1.2.within)=(g.ps.take i).flatMap (fun p=>p::p.1.2.within)++(p::p.1.2.within):=by rw [Yg,ep]; simp
  have hle:((g.ps.take i).flatMap (fun p=>p::p.1.2.within)).length+(p.1.2.within.length+1)<=200000:=by
   have h1:g.within=(g.ps.take (i+1)).flatMap (fun p=>p::p.1.2.within)++(g.ps.drop (i+1)).flatMap (fun p=>p::p.1.2.within):=by rw [Gr.dO,<- List.flatMap_append,List.take_append_drop]
   have h2:=congrArg List.length h1;rw [iL,Yf,Yf,Yk,wl] at h2;omega
  refine ⟨_,Ja,.inl ⟨rfl,_,SqL.of bj⟩,_,Ja,D,us,_,Ja,Ja,bj,Si (by omega),?_⟩;have t3:=SB.set (ps:=[D]) bj (by simp) (.lst (us++[.ref ad]));have b0:(upd H' D (.lst (us++[.ref ad]))) D=some (.lst (us++[.ref ad])):=Qt;have gT:=Bears.append (dv.sb t3 Gr.aj) (.cons (fc (s2.trans t3) _ _ (Gr.aj _) gz) .nil);have s3:=s2.trans t3;have xq:=s3.drop hD;generalize hH3:upd H' D (.lst (us++[.ref ad]))=H3 at t3 b0 gT s3 xq;have pd:=g.av p pm;have pp:=g.bE p pm;refine ⟨_,Ja,.inl ⟨rfl,_,SqL.of b0⟩,_,Ja,ad,_,_,_,Ja,Ja,xq.aH dS,atI_nat (j:=0) rfl,td,_,_,_,Ja,Ja,xq.aH rT,atI_nat (j:=1) rfl,ux,p.1.2,Ja,jR.sb xq,by omega,by omega,fun D2 QQ H4 s4 hDn i6 Jk=>?_⟩;have NB:=s4.keep _ _ b0 aL;have vl:=Jk.length;refine ⟨D,D2,_,_,Ja,Ja,NB,i6,?_,?_⟩
  ·rw [Yf,Yi];have:1000000<=sizeLine:=by decide
   omega
  have t5:=SB.set (ps:=[D]) NB (by simp) (.lst (us++[.ref ad]++QQ));refine ⟨(s3.trans s4.nil).trans t5,_,_,Ja,Qt,?_⟩;rw [iL,show ((g.ps.take i).flatMap (fun p=>p::p.1.2.within)++(p::p.1.2.within))=(g.ps.take i).flatMap (fun p=>p::p.1.2.within)++[p]++p.1.2.within by simp];exact Bears.append ((gT.sb s4 Gr.aj).sb t5 Gr.aj) (Jk.sb t5 Gr.aj)
 ·obtain ⟨s2,us,o2,rfl,bj,dv⟩:=h2;rw [bl,Yh,<- Gr.dO] at dv;exact ⟨_,Ja,q D us H2 (s2.drop hD) hD bj dv⟩
abbrev Yz:List Str:=[ao,cN,bO]
theorem qC:FnScope Yz [ao] (defScope HJ):=fS
theorem zfr (B:BI mg) (oJ:Got P w K mg base bx [ao] (70) (EO K 70)) (F:Fun K cQ cQ HJ f fd):FnOk P w K mg base CX0 (71) f fd [ao] (S3 K):=by
 refine F.ok qC (fun vs H Q E h=>?_) (fun _ A _ _ H vs Q E hr h=>?_)
 ·obtain ⟨v,g,ns,rfl,_⟩:=h
  rfl
 obtain ⟨v,g,ns,rfl,hv,hd,hp,hk,hn,q⟩:=h;have bF:=bC hr;refine ⟨_,Qe (Qj (Qs (z4t rfl) rfl B.sorted (by decide +kernel) (Qa (YM (own:=[(cN,1),(bO,2)]) (g:=(gTup K 2 (gCons (gName 1) (gCons (gName 2) gNil)))) (tt:=tYes) (te:=(tOp (rIxT K) (tVar 1) (tC (.int 0)))) rfl qC.nd (pi_list (aS oJ (Hm hr) rfl (Qa (pv 0) Qb))) (blkOk_by (N:=Yz) (sc:=defScope HJ) (by decide +kernel)) (fun _ _ _ _ _=>(pg_tup rfl (Qi (pg_name (i:=1) qC.nd rfl (.inl rfl)) (Qi (pg_name (i:=2) qC.nd rfl (.inl rfl)) pgs_nil)))) (fun _ _ _ _ _=>pts_nil) (fun _ _ _ _ _=>(Qm Ql (pv 1) Qg (fun _ _=>rfl)))) Qb))),?_⟩;have scb:3001 < scanBound:=by decide +kernel
 have wl:=g.bZ;refine ⟨_,Ja,v,g,Ja,hv,by omega,by omega,fun ll us H1 s1 Fq tD kR=>?_⟩;have ul:=kR.length;refine ⟨ll,Ja,⟨_,SqL.of tD⟩,fun D nD=>?_⟩;refine YS (walk_list (xs:=us)) nD (by omega) (fun i ss H2=>ss.Nodup/\∀ x,x ∈ ss ↔ x ∈ (g.within.take i).map fun p:Tr × Int=>p.1.1) ⟨List.nodup_nil,by simp⟩ (fun H2 s2=>s2.fG aL (SqL.of tD)) (fun _ _ _ _ _ h=>h) (fun Pv i x Hq H2 ss hi s2 y hR hl fin _=>?_) (fun ss H2 s2 bj hR hl=>?_)
 ·obtain ⟨rfl,ey⟩:=y;obtain ⟨p,ep,gz⟩:=kR.get ey;obtain ⟨ad,td,ux,rfl,dS,rT,jR,_⟩:=rY gz;refine ⟨ad,_,Ja,s2.aH dS,Ja,_,_,Ja,_,_,Ja,Ja,Ja,?_⟩;refine ⟨_,Ja,td,_,_,_,Ja,Ja,s2.aH rT,atI_nat (j:=0) rfl,fin p.1.1 _ SB.refl ⟨z6z hR.1,fun x=>?_⟩⟩;rw [Zw,hR.2,Yg,ep,Yj,List.mem_append];simp [or_comm]
 ·rw [ul,Yh] at hR;have sl:ss.length<=60:=by
   have:=hR.1.length_le_of_subset (l₂:=ns) fun x hx=>by
    obtain ⟨p,hp,e⟩:=Qx ((hR.2 x).mp hx);rw [<- e]; exact hk p hp
   omega
  refine ⟨D,ss,Ja,bj,by omega,fun By p pm srt np=>?_⟩;have t3:=Jb np (.lst (By.map V.str));exact q p By _ ((s1.trans s2).trans t3) ((s1.trans s2).kS _ np) Qt (.perm pm srt hR.1 hR.2) (by rw [pm.length_eq]; omega)
abbrev zla:List Str:=[ah,aN]
theorem zg9:FnScope zla [ah,aN] (defScope J9):=fS
theorem zhg {eX ag aq:Addr} (B:BI mg) (iP:mg "NO_GROVES"=some (.ref eX)) (iO:∀ H,Dp K H (.ref eX) (Ru.enc (.nil,.nil))) (HG:z2h P w K mg base ag "rules" [bf,aN] (4) (Qh K ag aq)) (F:Fun K bu bu J9 f fd):FnOk P w K mg base (L2.CX P w) (5) f fd [ah,aN] (SR K ag aq):=by
 refine F.okX zg9 (fun vs H Q E h=>?_) (fun _ A _ _ H vs Q E hr h=>?_)
 ·obtain ⟨v,b,n,rfl,_⟩:=h
  rfl
 obtain ⟨v,b,n,rfl,hb,hl,Vi,qk,qE⟩:=h;have bF:=bC hr;refine ⟨_,Qe (Qj (pe_op op_cat (pe_lst (Qa (pe_glob (v:=.ref eX) rfl iP rfl) Qb)) (SU HG (Hm hr) (takes_of rfl rfl rfl rfl) (pv 0) (Qa (pv 1) Qb)))),?_⟩;have kY:=sizeLine_eq;obtain ⟨va,yB,Ln,Lm,rfl,zF⟩:=hb.at;refine ⟨Z1,fun L hL=>?_⟩;have t1:=Jb hL (.lst [.ref eX]);have Jm:=dZ t1;generalize upd H L _=H1 at t1 Jm;refine ⟨_,Ja,va,yB,_,Ja,t1.keep _ _ zF aL,Ja,_,Ja,_,b,n,Ja,hb.cH t1,hl,Vi,fun k eg ll us H2 s2 Fq tD kR=>?_,fun z d H' s' nd hd=>qE z d H' (t1.trans s') (t1.kS d nd) hd⟩;have k4:=Vi k (Bk.get_some eg).1;have ul:=kR.length;refine ⟨L,ll,_,_,Ja,Ja,s2.keep _ _ Jm aL,tD,by show 1+_<=sizeLine; omega,fun M hM=>?_⟩;have t3:=Jb hM (.lst ([.ref eX]++us));have s3:=t1.trans s2;exact qk k eg M _ _ (s3.trans t3) (s3.kS _ hM) Qt (.cons (iO _) (kR.sb t3 Ru.af))
abbrev zjq:List Str:=[ah,aN]
theorem zgt:FnScope zjq [ah,aN] (defScope J4):=fS
theorem zi0 {aq ag:Addr} (B:BI mg) (oH:OwnI P w K mg base "NoKind" aq 1) (AN:GotM P w K mg base ag eS [bf] (1) (La K ag)) (F:Fun K c6 c6 J4 f fd):FnOk P w K mg base (L2.CX P w) (3) f fd [ah,aN] (QC K ag aq):=by
 refine F.okX zgt (fun vs H Q E h=>?_) (fun _ A _ _ H vs Q E hr h=>?_)
 ·obtain ⟨v,b,n,rfl,_⟩:=h
  rfl
 obtain ⟨v,b,n,rfl,hb,hl,qk,qE⟩:=h;refine ⟨_,Qe (Qr (pt_cmpR op_notIn_seq (pv 1) (SO AN (Hm hr) (pv 0)) (by rfl)) (Qe (ps_raise rfl (takes_of rfl rfl rfl rfl) (Z4 oH (Hm hr) rfl (pv 1)))) pss_nil),?_⟩;obtain ⟨a,dx,d1,d2,rfl,h1⟩:=hb.at;refine ⟨_,Ja,_,Ja,a,dx,_,Ja,h1,Ja,?_⟩;refine ⟨_,b,Ja,hb,hl,fun l H1 s1 hn kP=>?_⟩;refine ⟨l,_,Ja,.inl (SqL.of kP),Ja,IG _,_,Ja,?_⟩;rw [ID,Bk.vH];cases e:b.get n with
 | some k=>exact qk k e H1 s1
 | none=>exact ⟨_,Ja,fun d hd=>qE e d _ (s1.trans (SB.new hd _)) (s1.kS d hd) Qt⟩
abbrev zjp:List Str:=[ah,ao,"kind"]
theorem yP:FnScope zjp [ah,ao] (defScope KD):=fS
theorem zh7 {ag aq:Addr} (B:BI mg) (AA:Got P w K mg base cQ [ao] (71) (S3 K)) (tY:GotX P w K mg base c6 [ah,aN] (3) (QC K ag aq)) (F:Fun K dq dq KD f fd):FnOk P w K mg base (L2.CX P w) (72) f fd [ah,ao] (S5 K ag aq):=by
 refine F.okX yP (fun vs H Q E h=>?_) (fun _ A _ _ H vs Q E hr h=>?_)
 ·obtain ⟨v,w,b,g,ns,rfl,_⟩:=h
  rfl
 obtain ⟨v,w,b,g,ns,rfl,hv,hg,hl,hd,hp,hk,hn,q,qE⟩:=h;have bF:=bC hr;refine ⟨_,Qe (ps_for (passes_of rfl) rfl (pi_list (aS AA (Hm hr) rfl (Qa (pv 1) Qb))) (pg_name (i:=2) yP.nd rfl (.inl rfl))
   (Qe (Kf (pB tY (Hm hr) rfl (takes_of rfl rfl rfl rfl) (Qa (pv 0) (Qa (pv 2) Qb)))))),?_⟩
 refine ⟨_,Ja,w,g,ns,Ja,hg,hd,hp,hk,hn,fun l ss H1 s1 nl hls so sl=>?_⟩;refine ⟨l,Ja,⟨_,SqL.of hls⟩,?_⟩;refine for_it (walk_list (xs:=ss.map V.str)) (fun i σ H2=>SB [] H1 H2/\(∀ m ∈ ss.take i,¬ (m ∉ b.names))/\∃ o2,σ=[some v,some w,o2]) ⟨SB.refl,by simp,none,Ja⟩ (fun i σ H2 hi h2=>h2.1.fG aL (SqL.of hls)) (fun i x σ Hq H2 hi h2 y=>?_) (fun σ H2 h2=>?_)
 ·obtain ⟨s2,Ak,o2,rfl⟩:=h2;obtain ⟨rfl,ey⟩:=y;rw [List.getElem?_map] at ey;obtain ⟨k,ek,rfl⟩:=Kr ey;have mG:=s1.trans s2;refine ⟨_,Ja,_,Ja,v,b,k,Ja,hv.cH mG,by omega,fun kd e H3 s3=>⟨s2.trans s3,fun m hm=>?_,_,Ja⟩,fun z d H3 s3 nd Ji=>qE k (.at so ek (fun hm=>?_) Ak) d H3 (mG.trans s3) (mG.kS _ nd) Ji⟩
  ·rw [Yg,ek] at hm;rcases Qw hm with z | z
   ·exact Ak m z
   ·rw [Qy z];exact fun z=>z (Ku ⟨kd,(Bk.get_some e).1,(Bk.get_some e).2⟩)
  ·obtain ⟨kd,e⟩:=Bk.d8 hm;rw [e] at z; cases z
 ·obtain ⟨s2,Ak,o2,rfl⟩:=h2;rw [Ye,Yh] at Ak;exact q (fun x hx=>Classical.byContradiction fun z=>Ak x.1.1 ((so.mem _).mpr (Ku ⟨x,hx,Ja⟩)) z) _ (s1.trans s2)
abbrev R8:List Str:=[cO,aD,eS,cP]
theorem iA:FnScope R8 [cO] (defScope EL):=fS
theorem zgs (B:BI mg) (gZ:∃ t,mg "MOST_KINDS"=some (.int (8) t)) (O8:Got P w K mg base kL [aD] (86) (ZQ K)) (O5:Got P w K mg base fj [cP,eS] (71) (Td K)) (F:Fun K gu gu EL f fd):FnOk P w K mg base CX0 (87) f fd [cO] (z6t K):=by
 refine F.ok iA (fun vs H Q E h=>?_) (fun _ A _ _ H vs Q E hr h=>?_)
 ·obtain ⟨l,xs,ts,rfl,_⟩:=h
  rfl
 obtain ⟨l,xs,ts,rfl,hs,ha,hf,hl,q⟩:=h;obtain ⟨AY,rF⟩:=gZ;have bF:=bC hr;refine ⟨_,Qc (Qr (Qp (pt_chain op_le op_le Qg (Qs call_len_seq rfl B.len PySem.boot_len (Qa (pv 0) Qb)) (pe_glob (v:=.int (8)) rfl rF ⟨_,Ja⟩))) (Qe (Qj pe_bl)) pss_nil)
  (Qc (ps_for PassesOwn.never rfl (pi_list (pv 0)) (pg_name (i:=1) iA.nd rfl (.inl rfl))
   (Qe (Qr (Qp (Qo (aS O8 (Hm hr) rfl (Qa (pv 1) Qb)))) (Qe (Qj pe_bl)) pss_nil)))
  (Qc (ps_set (i:=2) iA.nd rfl (.inr rfl) (pe_lc (own:=[(aD,1)]) (g:=(gName 1)) (tt:=tYes) (te:=(tOp (rIxT K) (tVar 1) (tC (.int 0)))) rfl iA.nd (pi_list (pv 0)) (blkOk_by (N:=R8) (sc:=defScope EL) (by decide +kernel)) (fun _ _ _ _ _=>(pg_name (i:=1) iA.nd rfl (.inl rfl))) (fun _ _ _ _ _=>pts_nil) (fun _ _ _ _ _=>(Qm Ql (pv 1) Qg (fun _ _=>rfl)))))
  (Qc (Qr (pt_cmpR op_ne (zb3 rfl B rfl rfl (pv 2)) (Qs call_len_seq rfl B.len PySem.boot_len (Qa (pv 2) Qb)) (nomark _)) (Qe (Qj pe_bl)) pss_nil)
  (Qe (Qj (Qs (cr_all rfl) rfl B.all boot_all (Qa (pe_lc2 (own:=[(aD,1),(cP,3)]) (vs1:=[3]) (wi1:=(iList K (tOp (rIxT K) (tVar 1) (tC (.int 2))))) (g:=(gName 1)) (g1:=(gName 3)) (tt:=tYes) (tt1:=tYes) (te:=(tCall (Td K) [] E0 (tCons (tVar 3) (tCons (tVar 2) tNil)))) rfl iA.nd (pi_list (pv 0)) (blkOk_by (N:=R8) (sc:=defScope EL) (by decide +kernel)) (by simp) (fun _ _ _ _ _=>(pg_name (i:=1) iA.nd rfl (.inl rfl))) (fun _ _ _ _ _=>pts_nil) (fun _ _ _ _ _=>(pi_list (Qm Ql (pv 1) Qg (fun _ _=>rfl)))) (fun _ _ _ _ _=>(pg_name (i:=3) iA.nd rfl (.inl rfl))) (fun _ _ _ _ _=>pts_nil) (fun _ _ _ _ _=>(aS O5 (Hm hr) rfl (Qa (pv 3) (Qa (pv 2) Qb))))) Qb))))))),?_⟩
 have no:¬ HB ts->∀ H',SB [] H H'->Q (.bl false) H':=fun e H' s'=>q false H' s' ⟨(fun z=>nomatch z),fun z=>absurd z e⟩;have qp:=ha.length;have kY:=sizeLine_eq;refine ⟨_,Ja,l,xs,Ja,.inl hs,_,_,Ja,Ja,_,Ja,?_⟩;refine ite2 (fun c=>?_) (fun c=>?_)
 ·have c1:=Ks c;refine ⟨_,_,Ja,Ja,_,Ja,?_⟩;cases c8:decide (((xs.length:Nat):Int)<=8) with
  | false =>
   have c2:=of_decide_eq_false c8;refine iteT (no ?_ _ SB.refl)
   rintro ⟨b,e,ok⟩
   have:=ok.len;rw [e,Ye] at qp;omega
  | true =>
  refine iteF ?_;have c2:=Ks c8;refine ⟨_,Ja,l,Ja,⟨xs,hs⟩,?_⟩;refine for_list (K:=K) (a:=l) (xs:=xs) (fun i σ H2=>SB [] H H2/\(∃ o,σ=[some (.ref l),o,none,none])/\∀ t ∈ ts.take i,Av t) ⟨SB.refl,⟨none,Ja⟩,by simp⟩ (fun i σ H2 hi h2=>h2.1.fG aL hs) (fun i x σ H2 hx h2=>?_) (fun σ H2 h2=>?_)
  ·obtain ⟨h2,⟨o,rfl⟩,h3⟩:=h2;obtain ⟨t,et,ht⟩:=ha.get hx;have mt:=Qu et;refine ⟨_,Ja,x,t,Ja,YG h2 ht,hf t mt,fun b H3 s3 hb=>?_⟩;refine ⟨_,Ja,?_⟩;cases b with
   | false =>
    refine iteT (no ?_ _ (h2.trans s3))
    rintro ⟨bk,e,ok⟩
    rw [e] at mt;obtain ⟨k,hk,rfl⟩:=Qx mt;obtain ⟨o1,o2,o3⟩:=ok.kd k hk;exact nomatch hb.mpr ⟨k,rfl,o1,o2,fun r hr=>(o3 r hr).1⟩
   | true =>
    refine iteF ⟨h2.trans s3,⟨_,Ja⟩,fun t' ht'=>?_⟩;rw [Yg,et,Option.toList_some] at ht';rcases Qw ht' with h | h
    ·exact h3 t' h
    ·rw [Qy h]; exact hb.mp rfl
  ·obtain ⟨h2,⟨o,rfl⟩,h3⟩:=h2;rw [qp,Yh] at h3;obtain ⟨bk,et,hk⟩:=YW h3;subst et;rw [Ye] at qp;have yn:=(ha.sb h2).kd;have dS:=h2.fG aL hs;refine ⟨_,Ja,l,Ja,⟨xs,dS⟩,fun D hD=>?_⟩;refine oU (walk_list (xs:=xs)) hD (by omega) (fun i us _=>us=((Bk.names bk).take i).map V.str) rfl (fun H6 s6=>s6.fG aL dS) (fun _ _ _ _ _ h=>h) (fun Pv i x H6 H' us hi s6 y hR Vz fin _=>?_) (fun us H6 s6 hV hR _=>?_)
   ·obtain ⟨rfl,ex⟩:=y;obtain ⟨k,ek,t,r,zs,rfl,g1,g2,g3,_⟩:=yn.get ex;refine ⟨rfl,_,Ja,t,_,_,_,Ja,Ja,s6.aH g1,atI_nat (j:=0) rfl,fin _ _ SB.refl ?_⟩;rw [hR,Yg,List.getElem?_map,ek,Option.map_some,Option.toList_some,Yj]; rfl
   ·rw [qp,show (Bk.names bk).take bk.length=Bk.names bk by rw [List.take_of_length_le (by simp)]] at hR;subst hR;have me:=h2.trans s6;refine ⟨_,Ja,D,Bk.names bk,Ja,SqL.of hV,by rw [Ye]; omega,?_⟩;refine ⟨_,Ja,D,_,Ja,.inl (SqL.of hV),Ja,_,Ja,?_⟩;have Jf:=z86 (Bk.names bk);rw [show (List.map V.str (Bk.names bk)).length=(Bk.names bk).length from List.length_map ..];by_cases nd:(Bk.names bk).Nodup
    ·rw [Jf.mpr nd,show (!decide (V.int ((Bk.names bk).length:Nat)=V.int ((Bk.names bk).length:Nat)))=false by simp];refine iteF ?_;have ha6:=yn.sb s6 dR.nil;have hs6:=s6.fG aL dS;refine ⟨_,Ja,l,Ja,⟨xs,hs6⟩,fun E1 Jo=>?_⟩;refine Fv (walk_list (xs:=xs)) (fun i H2=>SB [E1] H6 H2/\∃ bs:List Bool,H2 E1=some (.lst (bs.map V.bl))/\bs=((bk.take i).flatMap fun k=>k.rs.map fun r=>decide (∀ p ∈ Ru.within r,p.1.1 ∈ Bk.names bk))) ⟨SB.new Jo _,[],Qt,Ja⟩ (fun i H2 hi h2=>(h2.1.drop Jo).fG aL hs6) (fun i x H2 H' hi h2 y=>?_) (fun H2 h2=>?_)
     ·obtain ⟨s7,bs,RP,vE⟩:=h2;obtain ⟨rfl,ex⟩:=y;obtain ⟨k,ek,t,r,zs,rfl,g1,g2,g3,_⟩:=ha6.get ex;have mk:=Qu ek;have zl:=g3.length;have r4:=(hk k mk).2.1;have TU:=s7.drop Jo;refine ⟨rfl,?_⟩;refine ⟨_,Ja,t,_,_,_,Ja,Ja,TU.aH g1,atI_nat (j:=2) rfl,r,Ja,⟨zs,SqL.of (TU.keep _ _ g2 aL)⟩,?_⟩;have iL:((bk.take (i+1)).flatMap fun k=>k.rs.map fun r=>decide (∀ p ∈ Ru.within r,p.1.1 ∈ Bk.names bk))=((bk.take i).flatMap fun k=>k.rs.map fun r=>decide (∀ p ∈ Ru.within r,p.1.1 ∈ Bk.names bk))++k.rs.map fun r=>decide (∀ p ∈ Ru.within r,p.1.1 ∈ Bk.names bk):=by rw [Yg,ek]; simp
      have hlen:bs.length<=4*i:=by
       rw [vE];clear vE RP s7 TU iL ex ek
       induction i with
       | zero=>simp
       | succ i ih =>
        rw [Yg,List.flatMap_append,Yf];have:=ih (by omega);cases e:bk[i]? with
        | none=>simp only [Option.toList_none,List.flatMap_nil,List.length_nil]; omega
        | some k2 =>
         have:=(hk k2 (Qu e)).2.1;simp only [Option.toList_some,List.flatMap_cons,List.flatMap_nil,Kz,Ye]; omega
      refine Fv (walk_list (xs:=zs)) (fun j H3=>SB [E1] H6 H3/\∃ Jy:List Bool,H3 E1=some (.lst (Jy.map V.bl))/\Jy=bs++((k.rs.take j).map fun r=>decide (∀ p ∈ Ru.within r,p.1.1 ∈ Bk.names bk))) ⟨s7,bs,RP,by simp⟩ (fun j H3 hj h3=>(h3.1.drop Jo).fG aL (SqL.of g2)) (fun j x H3 H4 hj h3 y=>?_) (fun H3 h3=>?_)
      ·obtain ⟨s8,Jy,Wr,Cw⟩:=h3;obtain ⟨rfl,R0⟩:=y;obtain ⟨ru,er,Rw⟩:=g3.get R0;have s8':=s8.drop Jo;have mr:=Qu er;refine ⟨rfl,?_⟩;refine ⟨_,Ja,_,Ja,_,D,ru,Bk.names bk,Ja,fc s8' _ _ (Ru.af _) Rw,(hk k mk).2.2 ru mr,SqL.of (s8'.keep _ _ hV aL),by rw [Ye]; omega,fun H9 s9=>?_⟩;have hE9:=s9.keep _ _ Wr aL;refine ⟨_,hE9,?_,(s8.trans s9.nil).trans (SB.set hE9 (by simp) _),Jy++[decide (∀ p ∈ Ru.within ru,p.1.1 ∈ Bk.names bk)],(by rw [Qt,Yj]; rfl),?_⟩
       ·rw [Ye,Cw,Yf,Ye,Kx];omega
       ·rw [Cw,Yg,er,Option.toList_some,Yj,<- List.append_assoc];exact rfl
      ·obtain ⟨s8,Jy,Wr,Cw⟩:=h3;refine ⟨s8,Jy,Wr,?_⟩;rw [iL,Cw,vE,zl,Yh]
     ·obtain ⟨s7,bs,RP,vE⟩:=h2;rw [qp,Yh] at vE;refine ⟨E1,bs,Ja,SqL.of RP,q _ _ (me.trans (s7.drop Jo)) ?_⟩;rw [vE];simp only [List.all_flatMap,List.all_map,List.all_eq_true,Function.comp,id_eq,decide_eq_true_eq];constructor
      ·intro h;exact ⟨bk,Ja,by omega,by omega,nd,fun k mk=>⟨(hk k mk).1,(hk k mk).2.1,fun r mr=>⟨(hk k mk).2.2 r mr,h k mk r mr⟩⟩⟩
      ·rintro ⟨b2,e2,ok⟩ k mk r mr
       have e3:=Sq e2;subst e3;exact ((ok.kd k mk).2.2 r mr).2
    ·rw [show (!decide (V.int ((met (Bk.names bk) (Bk.names bk).length).length:Nat)=V.int ((Bk.names bk).length:Nat)))=true by
      rw [Qz (fun z=>by injection z with z; exact nd (Jf.mp (by omega)))]; rfl]
     refine iteT (no ?_ _ me)
     rintro ⟨b2,e2,ok⟩
     have e3:=Sq e2;subst e3;exact nd ok.nd
 ·have c1:=of_decide_eq_false (Bool.eq_false_iff.mpr c);refine ⟨_,Ja,?_⟩;refine iteT (no ?_ _ SB.refl)
  rintro ⟨b,e,ok⟩
  have:=ok.pos;rw [e,Ye] at qp;omega
abbrev Yy:List Str:=[aD,aN,"spreading","rows","row"]
theorem lr:FnScope Yy [aD] (defScope Ie):=fS
theorem zfs (B:BI mg) (gY:∃ t,mg "MOST_RULES"=some (.int (4) t)) (O7:Got P w K mg base ik [aD] (2) (Sk K)) (O6:Got P w K mg base kK [aD] (85) (SH K)) (F:Fun K kL kL Ie f fd):FnOk P w K mg base CX0 (86) f fd [aD] (ZQ K):=by
 refine F.ok lr (fun vs H Q E h=>?_) (fun _ A _ _ H vs Q E hr h=>?_)
 ·obtain ⟨v,t,rfl,_⟩:=h
  rfl
 obtain ⟨v,t,rfl,th,hf,q⟩:=h;obtain ⟨AX,rE⟩:=gY;have bF:=bC hr;refine ⟨_,Qc (Qr (PW.pt (Kk (Qp (Qo (uC B (pv 0) B.tuple boot_tuple))) (pw_or1 (pt_cmpR op_ne (Qs call_len_seq rfl B.len PySem.boot_len (Qa (pv 0) Qb)) Qg (nomark _))))) (Qe (Qj pe_bl)) pss_nil)
  (Qc (ps_asg (pv 0) (pg_tup rfl (Qi (pg_name (i:=1) lr.nd rfl (.inl rfl)) (Qi (pg_name (i:=2) lr.nd rfl (.inl rfl)) (Qi (pg_name (i:=3) lr.nd rfl (.inl rfl)) pgs_nil)))))
  (Qc (Qr (PW.pt (Kk (Qp (Qo (aS O7 (Hm hr) rfl (Qa (pv 1) Qb)))) (pw_or1 (Qp (Qo (uC B (pv 2) B.bool boot_bool)))))) (Qe (Qj pe_bl)) pss_nil)
  (Qe (Qj (pe_and (uC B (pv 3) B.list boot_list) (pe_and (pe_cmpR op_le (Qs call_len_seq rfl B.len PySem.boot_len (Qa (pv 3) Qb)) (pe_glob (v:=.int (4)) rfl rE ⟨_,rfl⟩) (nomark _)) (pe_one (Qs (cr_all rfl) rfl B.all boot_all (Qa (pe_lc (own:=[("row",4)]) (g:=(gName 4)) (tt:=tYes) (te:=(tCall (SH K) [] E0 (tCons (tVar 4) tNil))) rfl lr.nd (pi_list (pv 3)) (blkOk_by (N:=Yy) (sc:=defScope Ie) (by decide +kernel)) (fun _ _ _ _ _=>(pg_name (i:=4) lr.nd rfl (.inl rfl))) (fun _ _ _ _ _=>pts_nil) (fun _ _ _ _ _=>(aS O6 (Hm hr) rfl (Qa (pv 4) Qb)))) Qb))))))))),?_⟩
 have no:¬ Av t->∀ H',SB [] H H'->Q (.bl false) H':=fun e H' s'=>q false H' s' ⟨(fun z=>nomatch z),fun z=>absurd z e⟩;cases t with
 | other =>
  have n0:¬ Av .other:=by rintro ⟨k,e,_⟩; cases e
  obtain ⟨d,tg,hd⟩:=th;obtain ⟨n1,b,ty,kb,y1,y2⟩:=tg.ty;refine ⟨_,Ja,_,_,n1,b,Ja,ty,kb,b,Ja,?_⟩;cases b with
  | false=>exact iteT (iteT (no n0 _ SB.refl))
  | true =>
  refine iteF ?_;obtain ⟨a,xs,ds,rfl,rfl,hs,ha⟩:=y1 rfl;refine ⟨_,Ja,a,xs,Ja,.inr hs,Ja,_,Ja,?_⟩;have hl:=TgAll.length ha;have h3:=hd ds rfl;rw [show (!decide (V.int (xs.length:Nat)=V.int 3))=true by rw [Qz (fun z=>by injection z with z; omega)]; rfl];exact iteT (no n0 _ SB.refl)
 | three d w rs =>
  obtain ⟨a,x,y,z,rfl,hs,tx,ty,tz⟩:=th;refine ⟨_,rfl,_,_,"tuple",true,rfl,Iv hs,by decide +kernel,_,rfl,?_⟩;refine iteF ?_;refine ⟨_,Ja,a,_,Ja,.inr hs,Ja,_,Ja,?_⟩;rw [show (!decide (V.int (([x,y,z]:List V).length:Nat)=V.int 3))=false from rfl];refine iteF ?_;refine ⟨_,Ja,a,_,Ja,hs,Ja,_,_,Ja,_,_,Ja,_,_,Ja,Ja,?_⟩;refine ⟨_,Ja,x,d,Ja,tx,fun H1 s1=>?_⟩;refine ⟨_,Ja,?_⟩;cases g1:wR d with
  | false =>
   refine iteT (iteT (no ?_ _ s1))
   rintro ⟨k,e,hk,_⟩
   injection e with e _ _
   rw [e,ZS hk] at g1;cases g1
  | true =>
  refine iteF ?_;obtain ⟨nm,rfl,Je⟩:=S6 g1;cases w with
  | none =>
   obtain ⟨n,ty,kb⟩:=ty;refine ⟨_,Ja,_,_,n,false,Ja,Ir s1 (fun _ _=>aL) ty,kb,_,Ja,?_⟩;refine iteT (no ?_ _ s1)
   rintro ⟨k,e,_⟩
   injection e with _ e _
   cases e
  | some bb =>
  have ty:y=.bl bb:=ty;subst ty;refine ⟨_,rfl,_,_,"bool",true,rfl,.base (.bl bb),by decide +kernel,_,rfl,?_⟩;refine iteF ?_;cases rs with
  | none =>
   obtain ⟨n,ty,kb⟩:=tz;refine ⟨_,Ja,_,_,n,false,Ja,Ir s1 (fun _ _=>aL) ty,kb,_,Ja,?_⟩;refine iteF (no ?_ _ s1)
   rintro ⟨k,e,_⟩
   injection e with _ _ e
   cases e
  | some ds =>
  obtain ⟨l,zs,rfl,hl,ha⟩:=tz;obtain ⟨Cu,hd2⟩:=hf ds rfl;refine ⟨_,rfl,_,_,"list",true,rfl,zg7 (s1.fG aL (SqL.of hl)),by decide +kernel,_,rfl,?_⟩;refine iteT ?_;have hlen:=TgAll.length ha;refine ⟨_,Ja,l,_,Ja,.inl (s1.fG aL (SqL.of hl)),_,_,Ja,Ja,_,Ja,?_⟩;refine ite2 (fun c=>?_) (fun c=>?_)
  ·have c1:=Ks c;rw [hlen] at c1;have kY:=sizeLine_eq;refine ⟨_,Ja,l,Ja,⟨_,s1.fG aL (SqL.of hl)⟩,fun D hD=>?_⟩;refine oU (walk_list (xs:=zs)) hD (by omega) (fun i us _=>∃ bs:List Bool,us=bs.map V.bl/\bs.length=i/\∀ j b,bs[j]?=some b->∀ x,ds[j]?=some x->(b=true ↔ Hy x)) ⟨[],Ja,Ja,fun j b h=>by rw [List.getElem?_nil] at h; cases h⟩ (fun H6 s6=>s6.fG aL (s1.fG aL (SqL.of hl))) (fun _ _ _ _ _ h=>h) (fun Pv i x H6 H' us hi s6 y hR Vz fin _=>?_) (fun us H6 s6 hV hR _=>?_)
   ·obtain ⟨rfl,ex⟩:=y;obtain ⟨p,ep,hp⟩:=TgAll.get ha ex;obtain ⟨bs,rfl,kR,vE⟩:=hR;refine ⟨rfl,_,Ja,x,p,Ja,AR (s1.trans s6) hp,hd2 _ (Qu ep),fun b H7 s7 hb=>fin _ _ s7 ⟨bs++[b],by rw [Yj]; rfl,by rw [Yf,kR]; rfl,fun j b' hj y hy=>?_⟩⟩;by_cases hji:j < bs.length
    ·rw [List.getElem?_append_left hji] at hj;exact vE j b' hj y hy
    ·have hj':j=bs.length:=by
      have:=(Kq hj).1;rw [Yf,Yi] at this;omega
     subst hj';rw [List.getElem?_append_right (Yc _),Nat.sub_self] at hj;cases hj;rw [kR,ep] at hy;cases hy;exact hb
   ·obtain ⟨bs,rfl,kR,vE⟩:=hR;refine ⟨D,bs,Ja,SqL.of hV,q _ _ (s1.trans s6) ?_⟩;have h1:(bs.all id=true) ↔ ∀ x ∈ ds,Hy x:=by
     rw [List.all_eq_true];constructor
     ·intro h x hx;obtain ⟨j,hj,e⟩:=List.getElem_of_mem hx;have MF:j < bs.length:=by omega
      exact (vE j bs[j] (Kp MF) x (by rw [Kp hj,e])).mp (h _ (List.getElem_mem MF))
     ·intro h b hb;obtain ⟨j,hj,e⟩:=List.getElem_of_mem hb;have MF:j < ds.length:=by omega
      exact (vE j b (by rw [Kp hj,e]) ds[j] (Kp MF)).mpr (h _ (List.getElem_mem MF))
    rw [h1];constructor
    ·intro h;obtain ⟨rr,e1,e2⟩:=Zu h;exact ⟨⟨nm,bb,rr⟩,by rw [Kd.kt,e1],Je,by rw [e1,Ye] at c1; show rr.length<=4; omega,e2⟩
    ·rintro ⟨k,e,_,_,hk⟩ x hx
     injection e with _ _ e
     injection e with e
     rw [e] at hx;obtain ⟨r,hr,rfl⟩:=Qx hx;exact ⟨r,Ja,hk r hr⟩
  ·have c1:=of_decide_eq_false (Bool.eq_false_iff.mpr c);rw [hlen] at c1;refine no ?_ _ s1
   rintro ⟨k,e,_,h4,_⟩
   injection e with _ _ e
   injection e with e
   rw [e,Ye] at c1;omega
abbrev Yr:List Str:=[aD,"once","each",gK,cN,bO]
theorem jz:FnScope Yr [aD] (defScope HI):=fS
theorem zgz (B:BI mg) (ef:∃ t,mg "MOST_RULE_PARTS"=some (.int (4) t)) (iS:∃ t,mg "MOST_MANY"=some (.int (1000000000) t)) (EC:Got P w K mg base dV [aD] (84) (IH K 81)) (oJ:Got P w K mg base bx [ao] (70) (EO K 70)) (F:Fun K kK kK HI f fd):FnOk P w K mg base CX0 (85) f fd [aD] (SH K):=by
 refine F.ok jz (fun vs H Q E h=>?_) (fun _ A _ _ H vs Q E hr h=>?_)
 ·obtain ⟨v,d,rfl,_⟩:=h
  rfl
 obtain ⟨v,d,rfl,th,hf,q⟩:=h;obtain ⟨uI,kq⟩:=ef;obtain ⟨Br,tI⟩:=iS;have bF:=bC hr;refine ⟨_,Qc (Qr (PW.pt (Kk (Qp (Qo (uC B (pv 0) B.tuple boot_tuple))) (pw_or1 (pt_cmpR op_ne (Qs call_len_seq rfl B.len PySem.boot_len (Qa (pv 0) Qb)) Qg (nomark _))))) (Qe (Qj pe_bl)) pss_nil)
  (Qc (ps_asg (pv 0) (pg_tup rfl (Qi (pg_name (i:=1) jz.nd rfl (.inl rfl)) (Qi (pg_name (i:=2) jz.nd rfl (.inl rfl)) pgs_nil))))
  (Qc (Qr (PW.pt (Kk (Qp (Qo (aS EC (Hm hr) rfl (Qa (pv 1) Qb)))) (pw_or1 (Qp (Qo (aS EC (Hm hr) rfl (Qa (pv 2) Qb))))))) (Qe (Qj pe_bl)) pss_nil)
  (Qc (ps_set (i:=3) jz.nd rfl (.inl rfl) (pe_op op_cat (aS oJ (Hm hr) rfl (Qa (pv 1) Qb)) (aS oJ (Hm hr) rfl (Qa (pv 2) Qb))))
  (Qe (Qj (pe_and (pe_cmpR op_le (Qs call_len_seq rfl B.len PySem.boot_len (Qa (pv 3) Qb)) (pe_glob (v:=.int (4)) rfl kq ⟨_,rfl⟩) (nomark _)) (pe_one (Qs (cr_all rfl) rfl B.all boot_all (Qa (pe_lc (own:=[(cN,4),(bO,5)]) (g:=(gTup K 2 (gCons (gName 4) (gCons (gName 5) gNil)))) (tt:=tYes) (te:=(tOp (rI0 fun i j=>.bl (decide (i<=j))) (tVar 5) (tC (.int (1000000000))))) rfl jz.nd (pi_list (pv 3)) (blkOk_by (N:=Yr) (sc:=defScope HI) (by decide +kernel)) (fun _ _ _ _ _=>(pg_tup rfl (Qi (pg_name (i:=4) jz.nd rfl (.inl rfl)) (Qi (pg_name (i:=5) jz.nd rfl (.inl rfl)) pgs_nil)))) (fun _ _ _ _ _=>pts_nil) (fun _ _ _ _ _=>(pe_cmpR op_le (pv 5) (pe_glob (v:=.int (1000000000)) rfl tI ⟨_,rfl⟩) (nomark _)))) Qb))))))))),?_⟩
 have no:¬ Hy d->∀ H',SB [] H H'->Q (.bl false) H':=fun e H' s'=>q false H' s' ⟨(fun z=>nomatch z),fun z=>absurd z e⟩;obtain ⟨n1,b,ty,kb,y1,y2⟩:=th.ty;refine ⟨_,Ja,_,_,n1,b,Ja,ty,kb,b,Ja,?_⟩;cases b with
 | false =>
  refine iteT (iteT (no ?_ _ SB.refl))
  rintro ⟨r,e,_⟩
  exact y2 rfl _ e
 | true =>
 refine iteF ?_;obtain ⟨a,xs,ds,rfl,rfl,hs,ha⟩:=y1 rfl;refine ⟨_,Ja,a,xs,Ja,.inr hs,Ja,_,Ja,?_⟩;have hl:=TgAll.length ha;by_cases c2:xs.length=2
 ·rw [show (!decide (V.int (xs.length:Nat)=V.int 2))=false by rw [c2]; rfl];refine iteF ?_;cases ha with
  | nil=>simp at c2
  | cons t1 ta =>
   cases ta with
   | nil=>simp at c2
   | cons t2 ta =>
    cases ta with
    | cons t3 ta=>simp at c2
    | nil =>
     rename_i v1 d1 v2 d2;obtain ⟨f1,f2,f3⟩:=hf;have q1:d1.depth < PyData.depth (.tuple [d1,d2])/\d2.depth < PyData.depth (.tuple [d1,d2]):=by simp only [PyData.depth,PyData.depthAll]; omega
     have q2:wide d1<=wide (.tuple [d1,d2])/\wide d2<=wide (.tuple [d1,d2]):=by simp only [wide,uB]; omega
     refine ⟨_,Ja,a,_,Ja,hs,Ja,_,_,Ja,_,_,Ja,Ja,?_⟩;refine ⟨_,Ja,v1,d1,Ja,t1,by omega,by omega,by omega,fun H1 s1=>?_⟩;refine ⟨_,Ja,?_⟩;cases g1:jU d1 with
     | false =>
      refine iteT (iteT (no ?_ _ s1));intro z;obtain ⟨g,k,e,z1,_⟩:=Y6 z
      injection e with e
      injection e with e _
      rw [e,z1] at g1;cases g1
     | true =>
     refine iteF ?_;refine ⟨_,Ja,v2,d2,Ja,AR s1 t2,by omega,by omega,by omega,fun H2 s2=>?_⟩;have mG:=s1.trans s2;refine ⟨_,Ja,?_⟩;cases g2:jU d2 with
     | false =>
      refine iteT (no ?_ _ mG);intro z;obtain ⟨g,k,e,_,z1⟩:=Y6 z
      injection e with e
      injection e with _ e
      injection e with e _
      rw [e,z1] at g2;cases g2
     | true =>
     refine iteF ?_;obtain ⟨u1,rfl⟩:=Tb _ g1;obtain ⟨u2,rfl⟩:=Tb _ g2;obtain ⟨w1,w2⟩:=f3 _ _ rfl u1 (.inl rfl);obtain ⟨w3,w4⟩:=f3 _ _ rfl u2 (.inr rfl);have WL:GA K H v1 u1:=by
      cases t1 with
      | tup h1 h2=>exact .tup h1 (EJ u1 h2)
     have WK:GA K H v2 u2:=by
      cases t2 with
      | tup h1 h2=>exact .tup h1 (EJ u2 h2)
     refine ⟨_,Ja,_,u1,Ja,WL.sb mG,by omega,by omega,fun D1 yD H3 s3 Ba rX zS=>?_⟩;refine ⟨_,Ja,_,u2,Ja,(WK.sb mG).sb s3,by omega,by omega,fun D2 yC H4 s4 tA bj dv=>?_⟩;have l1:=zS.length;have l2:=dv.length;rw [Gr.bZ] at l1 l2;have kY:=sizeLine_eq;refine ⟨D1,D2,yD,yC,Ja,Ja,s4.keep _ _ rX aL,bj,by omega,fun D3 xQ=>?_⟩;have t5:=Jb xQ (.lst (yD++yC));have fB:=((mG.trans s3).trans s4).trans t5;have b0:=dZ t5;have gT:Bears K (upd H4 D3 (.lst (yD++yC))) Gr.aC (yD++yC) (u1.within++u2.within):=Bears.append ((zS.sb s4 Gr.aj).sb t5 Gr.aj) (dv.sb t5 Gr.aj);generalize upd H4 D3 _=H5 at t5 fB b0 gT;have Ma:=zen g1 g2;refine ⟨_,Ja,D3,_,Ja,.inl (SqL.of b0),_,_,Ja,Ja,_,Ja,?_⟩;refine ite2 (fun c=>?_) (fun c=>?_)
     ·have c1:=Ks c;rw [Yf,l1,l2] at c1;have Xn:=gT.length;refine ⟨_,Ja,D3,Ja,⟨_,SqL.of b0⟩,fun D hD=>?_⟩;refine oU (walk_list (xs:=yD++yC)) hD (by rw [Yf]; omega) (fun i us _=>us=((u1.within++u2.within).take i).map fun p=>V.bl (decide (p.2<=1000000000))) rfl (fun H6 s6=>s6.fG aL (SqL.of b0)) (fun _ _ _ _ _ h=>h) (fun Pv i x H6 H' us hi s6 y hR Vz fin _=>?_) (fun us H6 s6 hV hR _=>?_)
      ·obtain ⟨rfl,ex⟩:=y;obtain ⟨p,ep,gz⟩:=gT.get ex;obtain ⟨ad,td,ux,rfl,dS,rT,jR,MX⟩:=rY gz;refine ⟨ad,_,Ja,s6.aH dS,Ja,_,_,Ja,_,_,Ja,Ja,Ja,?_⟩;refine ⟨_,Ja,_,_,Ja,Ja,fin _ _ SB.refl ?_⟩;rw [hR,Yg,ep,Option.toList_some,Yj]; rfl
      ·rw [Xn,Yh] at hR;subst hR;refine ⟨D,((u1.within++u2.within).map fun p=>decide (p.2<=1000000000)),Ja,SqL.of (by rw [List.map_map]; exact hV),q _ _ (fB.trans s6) ?_⟩;rw [Ma];simp only [List.all_map,List.all_eq_true,Function.comp,id_eq,decide_eq_true_eq];exact ⟨fun h=>⟨by omega,h⟩,fun h=>h.2⟩
     ·have c1:=of_decide_eq_false (Bool.eq_false_iff.mpr c);rw [Yf,l1,l2] at c1;refine q false _ fB ⟨(fun z=>nomatch z),fun z=>absurd (Ma.mp z).1 (by omega)⟩
 ·rw [show (!decide (V.int (xs.length:Nat)=V.int 2))=true by rw [Qz (fun z=>by injection z with z; omega)]; rfl];refine iteT (no ?_ _ SB.refl)
  rintro ⟨r,e,_⟩
  have e':PyData.tuple ds=.tuple [r.1.enc,r.2.enc]:=e
  injection e' with e'
  rw [e'] at hl;exact c2 hl
abbrev Yo:List Str:=[cP,eS,"once","each",cN,bO]
theorem lq:FnScope Yo [cP,eS] (defScope Il):=fS
theorem zgx (B:BI mg) (oJ:Got P w K mg base bx [ao] (70) (EO K 70)) (F:Fun K fj fj Il f fd):FnOk P w K mg base CX0 (71) f fd [cP,eS] (Td K):=by
 refine F.ok lq (fun vs H Q E h=>?_) (fun _ A _ _ H vs Q E hr h=>?_)
 ·obtain ⟨v,l,r,ns,rfl,_⟩:=h
  rfl
 obtain ⟨v,l,r,ns,rfl,hv,ho,hs,hn,q⟩:=h;have bF:=bC hr;refine ⟨_,Qc (ps_asg (pv 0) (pg_tup rfl (Qi (pg_name (i:=2) lq.nd rfl (.inl rfl)) (Qi (pg_name (i:=3) lq.nd rfl (.inl rfl)) pgs_nil))))
  (Qe (Qj (Qs (cr_all rfl) rfl B.all boot_all (Qa (pe_lc (own:=[(cN,4),(bO,5)]) (g:=(gTup K 2 (gCons (gName 4) (gCons (gName 5) gNil)))) (tt:=tYes) (te:=(tOp (rIn K false) (tOp (rIxT K) (tVar 4) (tC (.int 0))) (tVar 1))) rfl lq.nd (pi_list (pe_op op_cat (aS oJ (Hm hr) rfl (Qa (pv 2) Qb)) (aS oJ (Hm hr) rfl (Qa (pv 3) Qb)))) (blkOk_by (N:=Yo) (sc:=defScope Il) (by decide +kernel)) (fun _ _ _ _ _=>(pg_tup rfl (Qi (pg_name (i:=4) lq.nd rfl (.inl rfl)) (Qi (pg_name (i:=5) lq.nd rfl (.inl rfl)) pgs_nil)))) (fun _ _ _ _ _=>pts_nil) (fun _ _ _ _ _=>(pe_cmpR op_in_seq (Qm Ql (pv 4) Qg (fun _ _=>rfl)) (pv 1) (by rfl)))) Qb)))),?_⟩
 obtain ⟨ho1,Ms,ho3⟩:=ho;cases (hv:Dp K H v (.tuple [r.1.enc,r.2.enc])) with
 | tup ht hd =>
 rename_i a xs;cases hd with
 | cons g1 hd =>
 cases hd with
 | cons g2 hd =>
 cases hd;have dp1:=(oL r.1);have dp2:=(oL r.2);refine ⟨_,Ja,a,_,Ja,ht,Ja,_,_,Ja,_,_,Ja,Ja,?_⟩;have WL:GA K H _ r.1:=g1;have WK:GA K H _ r.2:=g2;refine ⟨_,Ja,_,r.1,Ja,WL,by omega,by omega,fun D1 yD H3 s3 Ba rX zS=>?_⟩;refine ⟨_,Ja,_,r.2,Ja,WK.sb s3,by omega,by omega,fun D2 yC H4 s4 tA bj dv=>?_⟩;have l1:=zS.length;have l2:=dv.length;rw [Gr.bZ] at l1 l2;have kY:=sizeLine_eq;refine ⟨D1,D2,yD,yC,Ja,Ja,s4.keep _ _ rX aL,bj,by omega,fun D3 xQ=>?_⟩;have t5:=Jb xQ (.lst (yD++yC));have fB:=(s3.trans s4).trans t5;have b0:=dZ t5;have gT:Bears K (upd H4 D3 (.lst (yD++yC))) Gr.aC (yD++yC) (r.1.within++r.2.within):=Bears.append ((zS.sb s4 Gr.aj).sb t5 Gr.aj) (dv.sb t5 Gr.aj);generalize upd H4 D3 _=H5 at t5 fB b0 gT;have Xn:=gT.length;refine ⟨D3,Ja,⟨_,SqL.of b0⟩,fun D hD=>?_⟩;refine oU (walk_list (xs:=yD++yC)) hD (by rw [Yf]; omega) (fun i us _=>us=((r.1.within++r.2.within).take i).map fun p=>V.bl (decide (p.1.1 ∈ ns))) rfl (fun H6 s6=>s6.fG aL (SqL.of b0)) (fun _ _ _ _ _ h=>h) (fun Pv i x H6 H' us hi s6 y hR Vz fin _=>?_) (fun us H6 s6 hV hR _=>?_)
 ·obtain ⟨rfl,ex⟩:=y;obtain ⟨p,ep,gz⟩:=gT.get ex;obtain ⟨ad,td,ux,rfl,dS,rT,jR,MX⟩:=rY gz;refine ⟨ad,_,Ja,s6.aH dS,Ja,_,_,Ja,_,_,Ja,Ja,Ja,?_⟩;refine ⟨_,Ja,td,_,_,_,Ja,Ja,s6.aH rT,atI_nat (j:=0) rfl,_,Ja,l,_,Ja,.inl ((fB.trans s6).fG aL hs),Ja,IG _,fin _ _ SB.refl ?_⟩;rw [hR,Yg,ep,Option.toList_some,Yj,ID]; rfl
 ·rw [Xn,Yh] at hR;subst hR;refine ⟨D,((r.1.within++r.2.within).map fun p=>decide (p.1.1 ∈ ns)),Ja,SqL.of (by rw [List.map_map]; exact hV),?_⟩;have:=q _ (fB.trans s6);rw [show (List.map (fun p:Tr × Int=>decide (p.1.1 ∈ ns)) (r.1.within++r.2.within)).all id=decide (∀ p ∈ Ru.within r,p.1.1 ∈ ns) by
   rw [Bool.eq_iff_iff];simp only [List.all_map,List.all_eq_true,Function.comp,id_eq,decide_eq_true_eq];exact Iff.rfl]
  exact this
abbrev zlj:List Str:=[ao,jT,cN,"row",wQ]
theorem lj:FnScope zlj [ao,jT] (defScope JL):=fS
theorem zf7 {C:Addr} (B:BI mg) (O:Own K mg "NoPlace" C) (GW:Got P w K mg base fT [aD] 1 (Su K)) (F:Fun K kI kI JL f fd):FnOk P w K mg base (L2.CX P w) 2 f fd [ao,jT] (SM K C):=by
 refine F.okX lj (fun vs H Q E h=>?_) (fun _ A _ _ H vs Q E hr h=>?_)
 ·obtain ⟨v,g,a,xs,os,rfl,_⟩:=h
  rfl
 obtain ⟨v,g,a,xs,os,rfl,hv,hs,hw,q,qE⟩:=h;refine ⟨_,Qc (Qr (Qp (pt_truth (pv 1) (by intro _; rfl))) (Qe (ps_raise rfl (takes_of rfl rfl rfl rfl) (pmk_own PySem.F.excBase_ValueError O.q O.gC O.k (raises_own O.s O.t) rfl))) pss_nil)
  (Qc (ps_set (i:=2) lj.nd rfl (.inl rfl) (Ka Qb))
  (Qc (ps_set (i:=3) lj.nd rfl (.inl rfl) (pv 0))
  (Qc (ps_for (passes_of rfl) rfl (pi_tup (pv 1)) (pg_name (i:=4) lj.nd rfl (.inl rfl))
   (Qc (Qr (PW.pt (Kk (Qp (Qo (aS GW hr rfl (Qa (pv 4) Qb)))) (pw_or1 (Qp (pt_chain op_le op_lt Qg (pv 4) (Qs call_len_seq rfl B.len PySem.boot_len (Qa (pv 3) Qb)))))))
    (Qe (ps_raise rfl (takes_of rfl rfl rfl rfl) (pmk_own PySem.F.excBase_ValueError O.q O.gC O.k (raises_own O.s O.t) rfl))) pss_nil)
   (Qc (ps_set (i:=2) lj.nd rfl (.inl rfl) (Qm Ql (Qm Ql (pv 3) (pv 4) (fun _ _=>rfl)) Qg (fun _ _=>rfl)))
   (Qe (ps_set (i:=3) lj.nd rfl (.inl rfl) (Qm Ql (pv 2) Qg (fun _ _=>rfl)))))))
  (Qe (Qj (pv 2)))))),?_⟩
 have wl:=hw.length;by_cases hnil:os=[]
 ·have x0:xs=[]:=by rw [hnil] at wl; exact List.length_eq_zero_iff.mp wl
  exact ⟨_,Ja,false,.inr (.inl ⟨xs,hs,by rw [x0]; rfl⟩),iteT (qE (.inl hnil) _ SB.refl)⟩
 have x1:xs ≠ []:=fun z=>hnil (by rw [z] at wl; exact List.length_eq_zero_iff.mp wl.symm);refine ⟨_,rfl,true,.inr (.inl ⟨xs,hs,by cases xs with | nil=>exact absurd rfl x1 | cons _ _=>rfl⟩),iteF ?_⟩;refine ⟨(Z0),fun e0 Bf=>?_⟩;have t0:=Jb Bf (.tup []);have hv0:=hv.sb t0;have I4:=t0.aH hs;have hw':Whs K (upd H e0 (.tup [])) xs os:=Whs.sb t0 hw;generalize hH0:upd H e0 (.tup [])=H0 at t0 hv0 I4 hw';refine ⟨_,Ja,_,Ja,a,Ja,⟨xs,I4⟩,?_⟩;refine for_tup (K:=K) (a:=a) (xs:=xs) (fun i σ H2=>H2=H0/\∃ (tv rv:V) (t:Tr) (o4:Option V),σ=[some v,some (.ref a),some tv,some rv,o4]/\lk ("",g) (os.take i)=some t/\GA K H0 rv t.2/\(i=0\/Dp K H0 tv (Gr.aO t)))
  ⟨rfl,_,_,("",g),none,rfl,rfl,hv0,.inl rfl⟩ (fun i σ H2 hi h2=>by rw [h2.1]; exact I4) (fun i x σ H2 hx h2=>?_) (fun σ H2 h2=>?_)
 ·obtain ⟨rfl,tv,rv,t,o4,rfl,zK,FU,_⟩:=h2;obtain ⟨o,eo,hwx⟩:=hw'.get hx;have bad:ug t.2 o=none->E (.ref C) none H2:=fun z=>qE (.inr (zei zK eo z)) _ t0;rcases hwx with ⟨n,rfl,rfl⟩ | ⟨rfl,n,b1,b2,ty,k1,k2,k3⟩
  ·refine ⟨_,rfl,_,"int",true,false,rfl,.base (.int n),by decide +kernel,fun _=>by decide +kernel,true,rfl,iteF ?_⟩;obtain ⟨c,ys,rfl,jQ,DQ⟩:=vX FU;have yl:=DQ.length;refine ⟨_,Ja,_,_,Ja,Ja,_,Ja,?_⟩;by_cases h0:0<=n
   ·rw [Ya h0];refine iteT ⟨_,Ja,c,ys,Ja,.inr jQ,_,_,Ja,Ja,_,Ja,?_⟩;obtain ⟨m,rfl⟩:∃ m:Nat,n=(m:Int):=⟨n.toNat,by omega⟩;by_cases h1:m < ys.length
    ·rw [show decide ((m:Int) < (ys.length:Nat))=true from Ya (by omega)];refine iteF ?_;obtain ⟨y,hy⟩:∃ y,ys[m]?=some y:=⟨_,Kp h1⟩;obtain ⟨p,ep,gz⟩:=DQ.get hy;obtain ⟨ad,bd,ux,rfl,rS,jO,Cs,MX⟩:=rY gz;refine ⟨_,Ja,_,Ja,c,ys,_,_,Ja,Ja,jQ,atI_nat hy,ad,_,_,_,Ja,Ja,rS,atI_nat (j:=0) rfl,?_⟩;refine ⟨_,Ja,bd,_,_,_,Ja,Ja,jO,atI_nat (j:=1) rfl,?_⟩;have es:ug t.2 (some (m:Int))=some p.1:=by
      show (if 0<=(m:Int) then (t.2.ps[(m:Int).toNat]?).map (·.1) else none)=_;rw [if_pos h0,Int.toNat_natCast,ep]; rfl
     exact ⟨rfl,_,_,p.1,_,Ja,zf5 zK eo es,Cs,.inr MX⟩
    ·rw [show decide ((m:Int) < (ys.length:Nat))=false from Qz (by omega)];refine iteT (bad ?_);show (if 0<=(m:Int) then (t.2.ps[(m:Int).toNat]?).map (·.1) else none)=_;rw [if_pos h0,Int.toNat_natCast,List.getElem?_eq_none (by omega)]; rfl
   ·rw [Qz h0];refine iteF ⟨_,Ja,iteT (bad ?_)⟩;show (if 0<=n then (t.2.ps[n.toNat]?).map (·.1) else none)=_;rw [if_neg h0]
  ·refine ⟨_,Ja,_,n,b1,b2,Ja,ty,k1,k2,_,Ja,?_⟩;rw [k3];exact iteT (iteT (bad rfl))
 ·obtain ⟨rfl,tv,rv,t,o4,rfl,zK,FU,h3⟩:=h2;rw [wl,Yh] at zK;refine ⟨_,Ja,q t hnil zK _ _ t0 ?_⟩;rcases h3 with h3 | h3
  ·exact absurd (List.length_eq_zero_iff.mp h3) x1
  ·exact h3
abbrev YB:List Str:=[ao,"found",wQ,"pair",jT]
theorem lz:FnScope YB [ao] (defScope HR):=fS
theorem zcf {ps:List Str}:FnOk P w K mg base CX0 k f fd ps (Iu K 0):=vW fun vs H Q E ⟨v,g,_,_,h,_⟩=>by omega
theorem zgu (B:BI mg) (AK:Got P w K mg base cA [ao] (n) (Iu K n)) (F:Fun K cA cA HR f fd):FnOk P w K mg base CX0 (n+1) f fd [ao] (Iu K (n+1)):=by
 refine F.ok lz (fun vs H Q E h=>?_) (fun _ A _ _ H vs Q E hr h=>?_)
 ·obtain ⟨v,g,rfl,_⟩:=h
  rfl
 obtain ⟨v,g,rfl,hv,hd,zpd,hp,q⟩:=h;have bF:=bC hr;refine ⟨_,Qc (ps_set (i:=1) lz.nd rfl (.inl rfl) (pe_lst Qb))
  (Qc (ps_for PassesOwn.never rfl (zd3 rfl B.enumerate (pv 0)) (pg_tup rfl (Qi (pg_name (i:=2) lz.nd rfl (.inr rfl)) (Qi (pg_name (i:=3) lz.nd rfl (.inl rfl)) pgs_nil)))
   (Qc (Kf (Kn Ki PySem.F.slot_list_append PySem.F.type_list_append mt_append (pv 1) (Qa (Ka (Qa (pv 2) Qb)) Qb)))
  (Qe (Kf (Kn Ki PySem.F.slot_list_extend PySem.F.type_list_extend mt_extend (pv 1) (Qa (pe_lc (own:=[(jT,4)]) (g:=(gName 4)) (tt:=tYes) (te:=(tOp (YC K) (tTup (tCons (tVar 2) tNil)) (tVar 4))) rfl lz.nd (pi_list (aS AK (Hm hr) rfl (Qa (Qm Ql (Qm Ql (pv 3) Qg (fun _ _=>rfl)) Qg (fun _ _=>rfl)) Qb))) (blkOk_by (N:=YB) (sc:=defScope HR) (by decide +kernel)) (fun _ _ _ _ _=>(pg_name (i:=4) lz.nd rfl (.inl rfl))) (fun _ _ _ _ _=>pts_nil) (fun _ _ _ _ _=>(pe_op yc (Ka (Qa (pv 2) Qb)) (pv 4)))) Qb))))))
  (Qe (Qj (pv 1)))),?_⟩
 obtain ⟨a,xs,rfl,hs,hb⟩:=vX hv;have bl:=hb.length;have UQ:=g.oG 0;refine ⟨(Z0),fun D hD=>?_⟩;refine ⟨_,Ja,a,xs,Ja,(Jb hD _).aH hs,?_⟩;refine for_it (zb1 (xs:=xs)) (fun i σ H2=>SB [D] H H2/\∃ us o2 o3,σ=[some (.ref a),some (.ref D),o2,o3,none]/\H2 D=some (.lst us)/\Bears K H2 Bm us ((Gr.aks (g.ps.take i) 0).map (·.1))) ⟨SB.new hD _,[],none,none,Ja,Qt,.nil⟩ (fun i σ H2 hi h2=>(h2.1.drop hD).aH hs) (fun i x σ H2 H' hi h2 y=>?_) (fun σ H2 h2=>?_)
 ·obtain ⟨s2,us,o2,o3,rfl,bj,dv⟩:=h2;obtain ⟨T,e1,e2,rfl,hT,rfl,OI,OH⟩:=y;have VQ:e1=.int (i:Nat):=(Yd OI).symm;subst VQ;obtain ⟨p,ep,gz⟩:=hb.get OH;have pm:=Qu ep;obtain ⟨ad,td,ux,rfl,dS,rT,jR,_⟩:=rY gz;have t3:=SB.new (ps:=[D]) hT (.tup [.int (i:Nat),.ref ad]);have b0:(upd H2 T (.tup [.int (i:Nat),.ref ad])) D=some (.lst us):=by rw [upd_ne (ne_of_none bj hT)]; exact bj
  have zU:SqT K (upd H2 T (.tup [.int (i:Nat),.ref ad])) T [.int (i:Nat),.ref ad]:=SqT.of Qt;have s3:=s2.trans t3;have gT:=dv.sb t3 ye;generalize hH3:upd H2 T (.tup [.int (i:Nat),.ref ad])=H3 at t3 b0 zU s3 gT;have ul:=gT.length;rw [Ye] at ul;have pd:=g.av p pm;have pp:=g.bE p pm;have Rv:g.ak 0=Gr.aks (g.ps.take i) 0++Gr.Et p i++Gr.aks (g.ps.drop (i+1)) (i+1):=by
   rw [Gr.An]
   conv=>lhs; rw [<- List.take_append_drop (i+1) g.ps]
   rw [Gr.jK,Gr.tU ep,Kx,Nat.min_eq_left (by omega),Nat.zero_add]
  have hlen:=congrArg List.length Rv;rw [Yf,Yf] at hlen;have hP:(Gr.Et p i).length=1+p.1.2.parts:=by
   unfold Gr.Et;rw [Yk,Ye,Gr.oG]; omega
  refine ⟨T,_,Ja,zU,Ja,_,_,Ja,_,_,Ja,Ja,?_⟩;refine ⟨_,Ja,.inl ⟨rfl,_,SqL.of b0⟩,_,Ja,(Z1),fun t ht=>?_⟩;have t4:=SB.new (ps:=[D]) ht (.tup [.int (i:Nat)]);have i6:(upd H3 t (.tup [.int (i:Nat)])) D=some (.lst us):=by rw [upd_ne (ne_of_none b0 ht)]; exact b0
  refine ⟨D,us,_,Ja,Ja,i6,wU (by omega),?_⟩;have t5:=SB.set (ps:=[D]) i6 (by simp) (.lst (us++[.ref t]));have d7:(upd (upd H3 t (.tup [.int (i:Nat)])) D (.lst (us++[.ref t]))) D=some (.lst (us++[.ref t])):=Qt;have zR:=Bears.append ((gT.sb t4 ye).sb t5 ye) (.cons (YF (p:=[i]) (t5.aH (SqT.of Qt))) .nil);have s5:=(s3.trans t4).trans t5;generalize hH5:upd (upd H3 t (.tup [.int (i:Nat)])) D (.lst (us++[.ref t]))=H5 at t5 d7 zR s5;have TV:=s5.drop hD;refine ⟨_,Ja,.inl ⟨rfl,_,SqL.of d7⟩,?_⟩;refine ⟨_,Ja,ad,_,_,_,Ja,Ja,TV.aH dS,atI_nat (j:=0) rfl,td,_,_,_,Ja,Ja,TV.aH rT,atI_nat (j:=1) rfl,_,p.1.2,Ja,jR.sb TV,by omega,by omega,by omega,fun D2 QQ H6 s6 Dw hV yk=>?_⟩;have Wv:=s6.keep _ _ d7 aL;have vl:=yk.length;rw [Ye] at vl;have pal:=p.1.2.oG 0;refine ⟨D2,Ja,⟨_,SqL.of hV⟩,fun L hL=>?_⟩;refine oU (walk_list (xs:=QQ)) hL (by have:=wU (n:=QQ.length) (by omega); omega) (fun j ws H7=>Bears K H7 Bm ws (((p.1.2.ak 0).take j).map fun x:Pl × Str=>i::x.1)) .nil (fun H7 s7=>s7.fG aL (SqL.of hV)) (fun _ _ _ _ e h=>h.sb e ye) (fun Pv j z Hq H7 ws hj s7 yz hR hw fin _=>?_) (fun ws H7 s7 RM hR hw=>?_)
  ·obtain ⟨rfl,ez⟩:=yz;obtain ⟨pl,OF,ff⟩:=yk.get ez;rw [List.getElem?_map] at OF;obtain ⟨x,ex,rfl⟩:=Kr OF;obtain ⟨pa,rfl,F4⟩:=Y4 ff;have znl:=p.1.2.rL 0 x (Qu ex);refine ⟨rfl,?_⟩;refine ⟨_,Ja,(Z1),fun t ht=>?_⟩;have t8:=Jb ht (.tup [.int (i:Nat)]);refine ⟨_,Ja,t,pa,_,_,Ja,Ja,SqT.of Qt,t8.aH (s7.aH F4),?_,fun c H8 s8 hc=>?_⟩
   ·rw [Ye,Yi];have:=Si (n:=1+x.1.length) (by omega);omega
   refine fin _ _ (t8.trans s8) ?_;rw [Yg,ex,Option.toList_some,Yj];exact Bears.append ((hR.sb t8 ye).sb s8 ye) (.cons (YF (p:=i::x.1) hc) .nil)
  ·rw [vl,Yh] at hR;have wl:=hR.length;rw [Ye] at wl;have uq:=s7.keep _ _ Wv aL;refine ⟨D,L,_,_,Ja,Ja,uq,RM,?_,?_⟩
   ·rw [Yf,Yi];have:=Si (n:=us.length+1+ws.length) (by omega);omega
   have t8:=SB.set (ps:=[D]) uq (by simp) (.lst (us++[.ref t]++ws));refine ⟨((s5.trans s6.nil).trans s7.nil).trans t8,_,_,_,Ja,Qt,?_⟩;rw [Gr.tU ep,Yj];show Bears _ _ _ _ (_++([i]::((p.1.2.ak 0).map fun x=>(i::x.1,x.2)).map (·.1)));rw [List.map_map,show ∀ A B:List Pl,A++[i]::B=A++[[i]]++B from fun A B=>by simp];exact Bears.append (((zR.sb s6 ye).sb s7 ye).sb t8 ye) (hR.sb t8 ye)
 ·obtain ⟨s2,us,o2,o3,rfl,bj,dv⟩:=h2;rw [bl,Yh,<- Gr.An] at dv;exact ⟨_,Ja,q D us H2 (s2.drop hD) hD bj dv⟩
abbrev zkw:List Str:=[ah,aN,"found",cP,"once","each"]
theorem m7:FnScope zkw [ah,aN] (defScope JT):=fS
theorem zhr {ag aq:Addr} (B:BI mg) (HG:z2h P w K mg base ag "rules" [bf,aN] (4) (Qh K ag aq)) (Ez:Got P w K mg base ie [aN,cP,"word",ao] (21) (z7y K)) (F:Fun K ia ia JT f fd):FnOk P w K mg base (L2.CX P w) (22) f fd [ah,aN] (z7v K ag aq):=by
 refine F.okX m7 (fun vs H Q E h=>?_) (fun _ A _ _ H vs Q E hr h=>?_)
 ·obtain ⟨v,b,n,rfl,_⟩:=h
  rfl
 obtain ⟨v,b,n,rfl,hv,ok,qk,qE⟩:=h;have bF:=bC hr;refine ⟨_,Qc (ps_set (i:=2) m7.nd rfl (.inl rfl) (pe_lst Qb))
  (Qc (ps_for (passes_of rfl) rfl (zcd rfl B.enumerate (SU HG (Hm hr) (takes_of rfl rfl rfl rfl) (pv 0) (Qa (pv 1) Qb))) (pg_tup rfl (Qi (pg_name (i:=3) m7.nd rfl (.inl rfl)) (Qi (pg_tup rfl (Qi (pg_name (i:=4) m7.nd rfl (.inl rfl)) (Qi (pg_name (i:=5) m7.nd rfl (.inl rfl)) pgs_nil))) pgs_nil)))
   (Qc (Kf (Kn Ki PySem.F.slot_list_extend PySem.F.type_list_extend mt_extend (pv 2) (Qa (aS Ez (Hm hr) rfl (Qa (pv 1) (Qa (pv 3) (Qa pe_str (Qa (pv 4) Qb))))) Qb)))
  (Qe (Kf (Kn Ki PySem.F.slot_list_extend PySem.F.type_list_extend mt_extend (pv 2) (Qa (aS Ez (Hm hr) rfl (Qa (pv 1) (Qa (pv 3) (Qa pe_str (Qa (pv 5) Qb))))) Qb))))))
  (Qe (Qj (pv 2)))),?_⟩
 have kY:=sizeLine_eq;obtain ⟨va,yB,Ln,Lm,rfl,zF⟩:=hv.at;have b8:=ok.len;have iD:∀ k ∈ b,k.rs.length<=1000:=fun k hk=>by have:=(ok.kd k hk).2.1; omega
 refine ⟨(Z0),fun D hD=>?_⟩;have t1:=Jb hD (.lst []);have rX:=dZ t1;generalize upd H D _=H1 at t1 rX;refine ⟨_,Ja,va,yB,_,Ja,t1.keep _ _ zF aL,Ja,_,Ja,_,b,n,Ja,hv.cH t1,by omega,iD,fun k eg ll us H2 s2 Fq tD kR=>?_,fun z d H' s' nd hd=>qE z d H' (t1.trans s') (Classical.byContradiction fun y=>by
  have:=t1.kS d; exact y (t1.kS d nd)) hd⟩
 obtain ⟨hk,rfl⟩:=Bk.get_some eg;obtain ⟨kn,r4,rr⟩:=ok.kd k hk;have ul:=kR.length;have lD:ll ≠ D:=fun z=>by rw [z,rX] at Fq; cases Fq
 have zl:(k.rs.zipIdx 1).length=k.rs.length:=List.length_zipIdx;have stl:=Kd.pH r4 fun r hr=>(rr r hr).1;refine ⟨ll,us,Ja,SqL.of tD,?_⟩;refine for_it (zar (xs:=us)) (fun i σ H3=>SB [D] H2 H3/\∃ ws o3 o4 o5,σ=[some (.ref va),some (.str k.n),some (.ref D),o3,o4,o5]/\H3 D=some (.lst ws)/\Bears K H3 Sx.enc ws (((k.rs.zipIdx 1).take i).flatMap (wc k.n))) ⟨SB.refl,[],none,none,none,Ja,s2.keep _ _ rX aL,.nil⟩ (fun i σ H3 hi h3=>h3.1.fG (by simpa using lD) (SqL.of tD)) (fun i x σ H3 H' hi h3 y=>?_) (fun σ H3 h3=>?_)
 ·obtain ⟨s3,ws,o3,o4,o5,rfl,b0,gT⟩:=h3;obtain ⟨T,e1,e2,rfl,hT,rfl,OI,OH⟩:=y;have VQ:e1=.int ((i+1:Nat):Int):=(Yd OI).symm;subst VQ;obtain ⟨r,er,DH⟩:=kR.get OH;have Mq:=fc s3 _ _ (Ru.af r) DH;have ez:(k.rs.zipIdx 1)[i]?=some (r,i+1):=by rw [List.getElem?_zipIdx,er,Nat.add_comm]; rfl
  have Rv:((k.rs.zipIdx 1).take (i+1)).flatMap (wc k.n)=((k.rs.zipIdx 1).take i).flatMap (wc k.n)++Bx k.n (i+1) "once" r.1++Bx k.n (i+1) "each" r.2:=by
   rw [Yg,ez,List.flatMap_append];simp [wc]
  have hlen:(((k.rs.zipIdx 1).take (i+1)).flatMap (wc k.n)).length<=k.steps.length:=by
   show _<=((k.rs.zipIdx 1).flatMap (wc k.n)).length
   conv=>rhs; rw [<- List.take_append_drop (i+1) (k.rs.zipIdx 1),List.flatMap_append,Yf]
   omega
  rw [Rv,Yf,Yf,Iw,Iw] at hlen;have wl:=gT.length;cases (Mq:Dp K H3 e2 (.tuple [r.1.enc,r.2.enc])) with
  | @tup ad AW _ wD hda =>
  cases hda with
  | cons g1 hda =>
  cases hda with
  | cons g2 hda =>
  cases hda;rename_i u1 u2;have t4:=Jb hT (.tup [.int ((i+1:Nat):Int),.ref ad]);have hT4:=gA (K:=K) t4;generalize upd H3 T _=H4 at t4 hT4;have i6:=t4.keep _ _ b0 aL;refine ⟨T,_,Ja,hT4,Ja,_,_,Ja,_,_,Ja,⟨ad,_,Ja,t4.aH wD,Ja,_,_,Ja,_,_,Ja,Ja,Ja,?_⟩⟩;have d1:=r.1.gV;have d2:=r.2.gV;refine ⟨_,rfl,.inl ⟨rfl,_,SqL.of i6⟩,_,rfl,_,rfl,_,rfl,k.n,"once",i+1,u1,r.1,rfl,GA.sb g1 t4,by omega,by omega,fun l1 v1 H5 s5 Rg kP zR=>?_⟩;have d7:=s5.keep _ _ i6 aL;have v1l:=zR.length;rw [Iw] at v1l;refine ⟨D,l1,_,_,Ja,Ja,d7,kP,by omega,?_⟩;have t6:=SB.set (ps:=[D]) d7 (by simp) (.lst (ws++v1));have yk:=Bears.append (((gT.sb t4 Sx.af).sb s5 Sx.af).sb t6 Sx.af) (zR.sb t6 Sx.af);have hV:upd H5 D (.lst (ws++v1)) D=some (.lst (ws++v1)):=Qt;have s6:=((s3.trans t4.nil).trans s5.nil).trans t6;have RY:=GA.sb (GA.sb g2 t4) s5;have RY:=GA.sb RY t6;generalize upd H5 D _=H6 at t6 yk hV s6 RY;refine ⟨_,rfl,.inl ⟨rfl,_,SqL.of hV⟩,_,rfl,_,rfl,_,rfl,k.n,"each",i+1,u2,r.2,rfl,RY,by omega,by omega,fun l2 v2 H7 s7 Fs kO Cz=>?_⟩;have uq:=s7.keep _ _ hV aL;have v2l:=Cz.length;rw [Iw] at v2l;refine ⟨D,l2,_,_,Ja,Ja,uq,kO,by rw [Yf]; omega,?_⟩;have t8:=SB.set (ps:=[D]) uq (by simp) (.lst (ws++v1++v2));refine ⟨(s6.trans s7.nil).trans t8,_,_,_,_,Ja,Qt,?_⟩;rw [Rv];exact Bears.append ((yk.sb s7 Sx.af).sb t8 Sx.af) (Cz.sb t8 Sx.af)
 ·obtain ⟨s3,ws,o3,o4,o5,rfl,b0,gT⟩:=h3;rw [ul,<- zl,Yh] at gT;exact ⟨_,Ja,qk k eg D ws H3 ((t1.trans s2).nil.trans s3 |>.drop hD) hD b0 gT⟩
abbrev Yu:List Str:=[aN,cP,"word",ao,jT]
theorem uK:FnScope Yu [aN,cP,"word",ao] (defScope Ij):=fS
theorem zfe {qf:Addr} (B:BI mg) (AK:Got P w K mg base cA [ao] (20) (Iu K 20)) (OX:GotX P w K mg base kI [ao,jT] (2) (SM K qf)) (F:Fun K ie ie Ij f fd):FnOk P w K mg base CX0 (21) f fd [aN,cP,"word",ao] (z7y K):=by
 refine F.ok uK (fun vs H Q E h=>?_) (fun _ A _ _ H vs Q E hr h=>?_)
 ·obtain ⟨n,wd,i,v,g,rfl,_⟩:=h
  rfl
 obtain ⟨n,wd,i,v,g,rfl,hv,hd,hp,q⟩:=h;have bF:=bC hr;refine ⟨_,Qe (Qj (pe_lc (own:=[(jT,4)]) (g:=(gName 4)) (tt:=tYes) (te:=(tTup (tCons (tTup (tCons (tVar 0) (tCons (tVar 1) (tCons (tVar 2) (tCons (tVar 4) tNil))))) (tCons (tOp (rIxT K) (tCall (SM K qf) [] E0 (tCons (tVar 3) (tCons (tVar 4) tNil))) (tC (.int 0))) tNil)))) rfl uK.nd (pi_list (aS AK (Hm hr) rfl (Qa (pv 3) Qb))) (blkOk_by (N:=Yu) (sc:=defScope Ij) (by decide +kernel)) (fun _ _ _ _ _=>(pg_name (i:=4) uK.nd rfl (.inl rfl))) (fun _ _ _ _ _=>pts_nil) (fun _ _ _ _ _=>(Ka (Qa (Ka (Qa (pv 0) (Qa (pv 1) (Qa (pv 2) (Qa (pv 4) Qb))))) (Qa (Qm Ql (KO OX (Hm hr) rfl (Qa (pv 3) (Qa (pv 4) Qb))) Qg (fun _ _=>rfl)) Qb)))))),?_⟩;have kY:=sizeLine_eq;have UQ:=g.oG 0;refine ⟨_,Ja,v,g,Ja,hv,hd,by omega,by omega,fun D us H1 s1 nD hD hb=>?_⟩;have vl:=hb.length;rw [Ye] at vl;refine ⟨D,Ja,⟨_,SqL.of hD⟩,fun L hL=>?_⟩;refine oU (walk_list (xs:=us)) hL (by omega) (fun j ws H2=>Bears K H2 Sx.enc ws (((g.ak 0).take j).map fun x:Pl × Str=>⟨n,i,wd,x.1,x.2⟩)) .nil (fun H2 s2=>s2.fG aL (SqL.of hD)) (fun _ _ _ _ e h=>h.sb e Sx.af) (fun Pv j z Hq H2 ws hj s2 yz hR hw fin _=>?_) (fun ws H2 s2 Ny hR hw=>?_)
 ·obtain ⟨rfl,ez⟩:=yz;obtain ⟨pl,OF,ff⟩:=hb.get ez;rw [List.getElem?_map] at OF;obtain ⟨x,ex,rfl⟩:=Kr OF;obtain ⟨pa,rfl,F4⟩:=Y4 ff;obtain ⟨n1,t,e1,e2⟩:=g.Ao x (Qu ex);refine ⟨rfl,?_⟩;refine ⟨_,Ja,_,Ja,_,Ja,_,Ja,(by show 4<=sizeLine; decide),fun T hT=>?_⟩;have t3:=Jb hT (.tup [.str n,.int (i:Int),.str wd,.ref pa]);have s3:=s2.trans t3;have zU:=gA (K:=K) t3;generalize upd H2 T _=H3 at t3 s3 zU;refine ⟨_,Ja,_,Ja,v,g,pa,_,A6 x.1,Ja,hv.sb (s1.trans s3),s3.aH F4,Whs.pl K H3 x.1,fun t' _ et X H4 s4 hX=>?_,fun z=>?_⟩
  ·obtain rfl:t'=t:=Yd (et.symm.trans e1);cases (hX:Dp K H4 X (.tuple [.str t'.1,t'.2.enc])) with
   | tup hX1 hX2 =>
   cases hX2 with
   | cons k1 hX2 =>
   cases hX2 with
   | cons k2 hX2 =>
   cases hX2;cases k1;refine ⟨_,_,_,_,Ja,Ja,hX1,atI_nat (j:=0) rfl,(dU),fun T2 ou=>?_⟩;have t5:=Jb ou (.tup [.ref T,.str t'.1]);have BC:=(t3.trans s4).trans t5;refine fin _ _ BC ?_;rw [Yg,ex,Option.toList_some,Yj];refine Bears.append (hR.sb BC Sx.af) (.cons ?_ .nil);show Dp K _ _ (.tuple [.tuple [.str n,.int (i:Int),.str wd,Bm x.1],.str x.2]);rw [<- e2];exact .tup (SqT.of Qt) (.cons (.tup ((s4.trans t5).aH zU) (.cons (.str _) (.cons (.int _) (.cons (.str _) (.cons (fc (s2.trans BC) _ _ (ye _) ff) .nil))))) (.cons (.str _) .nil))
  ·rcases z with z | z
   ·exact absurd z n1
   ·rw [e1] at z; cases z
 ·rw [vl,Yh] at hR;exact q L ws H2 (s1.trans s2) (s1.kS L hL) Ny hR
abbrev Yx:List Str:=[ah,aN,"step","kind"]
theorem qB:FnScope Yx [ah,aN] (defScope HK):=fS
theorem zhl {ag aq:Addr} (B:BI mg) (OY:GotX P w K mg base ia [ah,aN] (22) (z7v K ag aq)) (F:Fun K vS vS HK f fd):FnOk P w K mg base (L2.CX P w) (23) f fd [ah,aN] (SG K ag aq):=by
 refine F.okX qB (fun vs H Q E h=>?_) (fun _ A _ _ H vs Q E hr h=>?_)
 ·obtain ⟨v,b,n,rfl,_⟩:=h
  rfl
 obtain ⟨v,b,n,rfl,hv,ok,qk,qE⟩:=h;have bF:=bC hr;refine ⟨_,Qe (Qj (Qs (z4t rfl) rfl B.sorted (by decide +kernel) (Qa (YM (own:=[("step",2),("kind",3)]) (g:=(gTup K 2 (gCons (gName 2) (gCons (gName 3) gNil)))) (tt:=tYes) (te:=(tVar 3)) rfl qB.nd (pi_list (pB OY (Hm hr) rfl (takes_of rfl rfl rfl rfl) (Qa (pv 0) (Qa (pv 1) Qb)))) (blkOk_by (N:=Yx) (sc:=defScope HK) (by decide +kernel)) (fun _ _ _ _ _=>(pg_tup rfl (Qi (pg_name (i:=2) qB.nd rfl (.inl rfl)) (Qi (pg_name (i:=3) qB.nd rfl (.inl rfl)) pgs_nil)))) (fun _ _ _ _ _=>pts_nil) (fun _ _ _ _ _=>(pv 3))) Qb))),?_⟩;have scb:1000 < scanBound:=by decide +kernel
 refine ⟨_,Ja,_,Ja,v,b,n,Ja,hv,ok,fun k eg ll us H1 s1 Fq tD kR=>?_,fun z d H' s' nd hd=>qE z d H' s' nd hd⟩;obtain ⟨hk,rfl⟩:=Bk.get_some eg;obtain ⟨kn,r4,rr⟩:=ok.kd k hk;have stl:=Kd.pH r4 fun r hr=>(rr r hr).1;have ul:=kR.length;refine ⟨ll,Ja,⟨_,SqL.of tD⟩,fun D nD=>?_⟩;refine YS (walk_list (xs:=us)) nD (by omega) (fun i ss H2=>ss.Nodup/\∀ x,x ∈ ss ↔ x ∈ (k.steps.take i).map Sx.k) ⟨List.nodup_nil,by simp⟩ (fun H2 s2=>s2.fG aL (SqL.of tD)) (fun _ _ _ _ _ h=>h) (fun Pv i x Hq H2 ss hi s2 y hR hl fin _=>?_) (fun ss H2 s2 bj hR hl=>?_)
 ·obtain ⟨rfl,ey⟩:=y;obtain ⟨st,es,jO⟩:=kR.get ey;cases (jO:Dp K H1 x (.tuple [st.st,.str st.k])) with
  | @tup ad AW _ wD hda =>
  cases hda with
  | cons g1 hda =>
  cases hda with
  | cons g2 hda =>
  cases hda;cases g2;refine ⟨ad,_,Ja,s2.aH wD,Ja,_,_,Ja,_,_,Ja,Ja,Ja,?_⟩;refine ⟨_,Ja,fin st.k _ SB.refl ⟨z6z hR.1,fun x=>?_⟩⟩;rw [Zw,hR.2,Yg,es,Yj,List.mem_append];simp [or_comm]
 ·rw [ul,Yh,Kd.sC] at hR;refine ⟨D,ss,Ja,bj,by omega,fun By p pm srt np=>?_⟩;have t3:=Jb np (.lst (By.map V.str));exact qk k eg p By _ ((s1.trans s2).trans t3) ((s1.trans s2).kS _ np) Qt (SrtOf.perm pm srt hR.1 hR.2)
abbrev XZ:List Str:=[ah,"led",oT,"fresh",aN]
theorem lu:FnScope XZ [ah] (defScope HZ):=fS
theorem zhu {ag aq:Addr} (B:BI mg) (AN:GotM P w K mg base ag eS [bf] (1) (La K ag)) (O3:GotX P w K mg base vS [ah,aN] (23) (SG K ag aq)) (EB:Got P w K mg base fY ["led",oT] (1) (z72 K)) (F:Fun K cT cT HZ f fd):FnOk P w K mg base CX0 (24) f fd [ah] (S8 K ag aq):=by
 refine F.ok lu (fun vs H Q E h=>?_) (fun _ A _ _ H vs Q E hr h=>?_)
 ·obtain ⟨v,b,rfl,_⟩:=h
  rfl
 obtain ⟨v,b,rfl,hv,ok,q⟩:=h;have bF:=bC hr;refine ⟨_,Qc (zcx (i:=1) (own:=[(aN,4)]) (g:=(gName 4)) (tt:=tYes) (tk:=(tVar 4)) (tv:=(tCall (SG K ag aq) [] E0 (tCons (tVar 0) (tCons (tVar 4) tNil)))) rfl lu.nd rfl rfl (zcg rfl rfl rfl (by decide +kernel)) (pi_list (SO AN (Hm hr) (pv 0))) (blkOk_by (N:=XZ) (sc:=defScope HZ) (by decide +kernel)) (fun _ _ _ _ _=>(pg_name (i:=4) lu.nd rfl (.inl rfl))) (fun _ _ _ _ _=>pts_nil) (fun _ _ _ _ _=>(pv 4)) (fun _ _ _ _ _=>(KO O3 (Hm hr) rfl (Qa (pv 0) (Qa (pv 4) Qb)))))
  (Qc (ps_set (i:=2) lu.nd rfl (.inl rfl) (pe_lst Qb))
  (Qc (ps_set (i:=3) lu.nd rfl (.inl rfl) (aS EB (Hm hr) rfl (Qa (pv 1) (Qa (pv 2) Qb))))
  (Qc (ps_while PassesOwn.never (pt_truth (pv 3) (by intro _; rfl)) (Qc (Kf (Kn Ki PySem.F.slot_list_extend PySem.F.type_list_extend mt_extend (pv 2) (Qa (pv 3) Qb)))
  (Qe (ps_set (i:=3) lu.nd rfl (.inl rfl) (aS EB (Hm hr) rfl (Qa (pv 1) (Qa (pv 2) Qb)))))))
  (Qe (Qj (pv 2)))))),?_⟩
 have kY:=sizeLine_eq;have b8:=ok.len;have nml:b.names.length=b.length:=List.length_map ..;obtain ⟨va,yB,Ln,Lm,rfl,zF⟩:=hv.at;refine ⟨_,Ja,va,yB,_,Ja,zF,Ja,?_⟩;refine ⟨_,b,Ja,hv,by omega,fun nl H1 s1 nn hn=>?_⟩;refine ⟨nl,Ja,⟨_,SqL.of hn⟩,fun D nD=>?_⟩;refine zf6 (walk_list (xs:=b.names.map V.str)) nD (by rw [Ye]; omega) (fun i aU H2=>LedAll K H2 aU (b.take i)/\∀ p ∈ aU,p.2 ≠ .ref D) ⟨.nil,by simp⟩ (fun H2 s2=>s2.fG aL (SqL.of hn)) (fun i aU H2 H3 s3 ⟨h1,h2⟩=>⟨h1.sb s3 fun p hp q hq=>by rw [Qy hq]; exact h2 p hp,h2⟩) (fun Pv i x Hq H2 aU hi s2 y hR hl bj fin _=>?_) (fun aU H2 s2 bj hR hl=>?_)
 ·obtain ⟨rfl,ey⟩:=y;rw [List.getElem?_map] at ey;obtain ⟨n,en,rfl⟩:=Kr ey;rw [List.getElem?_map] at en;obtain ⟨k,ek,rfl⟩:=Kr en;have km:=Qu ek;have eg:=Bk.gI ok.nd km;obtain ⟨h1,h2⟩:=hR;have Vq:∀ p ∈ aU,p.1 ≠ Sum.inr k.n:=fun p hp z=>by
   have h3:p.1 ∈ (Bk.names (b.take i)).map (Sum.inr (α:=Int)):=by rw [<- h1.keys]; exact Ku ⟨p,hp,Ja⟩
   rw [z] at h3;obtain ⟨m,hm,e⟩:=Qx h3;have e:=Sum.inr.inj e;subst e;exact zai ok.nd ek hm
  refine ⟨rfl,_,Ja,_,Ja,_,Ja,_,b,k.n,Ja,(hv.cH s1).cH s2,ok,fun k' e' l ss H3 s3 nl' Gb so=>?_,fun z=>by rw [eg] at z; cases z⟩;rw [eg] at e';cases e';refine fin (Sum.inr k.n) (.ref l) H3 s3 ?_;rw [K4 Vq,Yg,ek];refine ⟨(h1.sb s3 (by simp)).append (.cons Gb so .nil),fun p hp=>?_⟩;rcases Qw hp with hp | hp
  ·exact h2 p hp
  ·rw [Qy hp];intro z;rw [V.ref.inj z,bj] at nl';cases nl'
 obtain ⟨hk,hkD⟩:=hR;rw [Ye,nml,Yh] at hk;have jD:=s1.trans s2;refine ⟨Z0,fun E nE=>?_⟩;have t3:=Jb nE (.lst []);have DZ:=dZ t3;have hkE:=hk.ne nE;have b0:=t3.keep _ _ bj aL;have Cm:=hk.sb t3 (by simp);have fy:=jD.trans t3;have nE0:H E=none:=jD.kS _ nE;have DE:D ≠ E:=ne_of_none bj nE;generalize upd H2 E _=H3 at t3 DZ b0 Cm fy;refine ⟨_,Ja,_,Ja,D,E,b,[],aU,Ja,b0,Cm,DZ,ok,fun F H4 s4 nF hF=>?_⟩;refine b7 ⟨fun m σ H5=>∃ (es:List Str) (F:Addr),m=9-es.length/\σ=[some (.ref va),some (.ref D),some (.ref E),some (.ref F),none]/\SB [] H H5/\H5 D=some (.dK aU)/\LedAll K H5 aU b/\H5 E=some (.lst (es.map V.str))/\H5 F=some (.lst ((b.names.filter (into b es)).map V.str))/\F ≠ E/\es.Nodup/\(∀ n ∈ es,n ∈ b.names)/\(∀ n ∈ es,EndK b n)/\∀ (i:Nat) (n:Str),es[i]?=some n->∀ k ∈ adj b n,k ∈ es.take i,
  ⟨9,[],F,rfl,rfl,fy.trans s4,s4.keep _ _ b0 aL,Cm.sb s4 (by simp),s4.keep _ _ DZ aL,hF,(fun z=>by rw [z,DZ] at nF; cases nF),List.nodup_nil,by simp,by simp,by simp⟩,fun m σ H5 hW=>?_⟩
 obtain ⟨es,F,rfl,rfl,s5,d7,Ck,RR,Jn,FE,nd,sub,ends,ord⟩:=hW;have fl:=List.length_filter_le (into b es) b.names;have esl:es.length<=8:=by
  have:=nd.length_le_of_subset (l₂:=b.names) sub;omega
 refine ⟨_,Ja,_,.inl ⟨_,SqL.of Jn,Ja⟩,?_⟩;by_cases hf:b.names.filter (into b es)=[]
 ·rw [hf];refine iteF ⟨_,Ja,q E es H5 s5 nE0 RR ⟨nd,esl,fun n=>⟨fun h=>⟨sub n h,ends n h⟩,fun h=>zag ok hf h.2 h.1⟩,ord⟩⟩
 ·rw [show (!((b.names.filter (into b es)).map V.str).isEmpty)=true by
   cases h:b.names.filter (into b es) with
   | nil=>exact absurd h hf
   | cons _ _=>rfl]
  refine iteT ⟨_,fun σ' H' h=>h,?_⟩;refine ⟨_,Ja,.inl ⟨rfl,_,SqL.of RR⟩,_,Ja,E,F,_,_,Ja,Ja,RR,Jn,by rw [Ye,Ye]; omega,?_⟩;rw [<- Yj];have t6:=SB.set (ps:=[E]) RR (by simp) (.lst ((es++b.names.filter (into b es)).map V.str));have RQ:upd H5 E (.lst ((es++b.names.filter (into b es)).map V.str)) E=some (.lst ((es++b.names.filter (into b es)).map V.str)):=Qt;have hV:=t6.keep _ _ d7 (by simpa using DE);have VB:=Ck.sb t6 fun p hp q hq=>by rw [Qy hq]; exact hkE p hp
  have s6:SB [] H (upd H5 E (.lst ((es++b.names.filter (into b es)).map V.str))):=((s5.nil (ps:=[E])).trans t6).drop nE0;generalize upd H5 E _=H6 at t6 RQ hV VB s6;refine ⟨_,Ja,_,Ja,D,E,b,es++b.names.filter (into b es),aU,Ja,hV,VB,RQ,ok,fun F2 H7 s7 nF2 NA=>?_⟩;have yeb:0 < (b.names.filter (into b es)).length:=List.length_pos_iff.mpr hf;refine ⟨9-(es++b.names.filter (into b es)).length,by rw [Yf]; omega,es++b.names.filter (into b es),F2,rfl,rfl,s6.trans s7,s7.keep _ _ hV aL,VB.sb s7 (by simp),s7.keep _ _ RQ aL,NA,(fun z=>by rw [z,RQ] at nF2; cases nF2),?_,fun n hn=>?_,fun n hn=>?_,fun i n ei k hk=>?_⟩
  ·refine List.nodup_append.mpr ⟨nd,ok.nd.filter _,fun x hx y hy e=>?_⟩;subst e;have:=(List.mem_filter.mp hy).2;unfold into at this;rw [Bool.and_eq_true,decide_eq_true_eq] at this;exact this.1 hx
  ·rcases Qw hn with h | h
   ·exact sub n h
   ·exact (List.mem_filter.mp h).1
  ·rcases Qw hn with h | h
   ·exact ends n h
   ·have:=(List.mem_filter.mp h).2;unfold into at this;rw [Bool.and_eq_true,List.all_eq_true] at this;exact .mk fun k hk=>ends k (Ks (this.2 k hk))
  ·rcases Nat.lt_or_ge i es.length with hi | hi
   ·rw [List.getElem?_append_left hi] at ei;rw [List.take_append_of_le_length (by omega)];exact ord i n ei k hk
   ·rw [List.getElem?_append_right hi] at ei;have:=(List.mem_filter.mp (Qu ei)).2;unfold into at this;rw [Bool.and_eq_true,List.all_eq_true] at this;have h3:=Ks (this.2 k hk);rw [List.take_append,List.take_of_length_le hi];exact gR _ h3
abbrev Se:List Str:=["led",oT,aN,"kind"]
theorem ng:FnScope Se ["led",oT] (defScope Ik):=fS
theorem zi1 (B:BI mg) (F:Fun K fY fY Ik f fd):FnOk P w K mg base CX0 (1) f fd ["led",oT] (z72 K):=by
 refine F.ok ng (fun vs H Q E h=>?_) (fun _ A _ s H vs Q E hr h=>?_)
 ·obtain ⟨d,e,b,es,aU,rfl,_⟩:=h
  rfl
 obtain ⟨d,e,b,es,aU,rfl,hd,hk,he,ok,q⟩:=h;have bF:=bC hr;refine ⟨_,Qe (Qj (pe_lock (pe_lc (own:=[(aN,2)]) (g:=(gName 2)) (tt:=(tAnd (tTest (tOp (rIn K true) (tVar 2) (tVar 1))) (tB (tCB (rAll K) (tCons (tLc (iList K (tDGet (tVar 0) (tVar 2))) (gName 3) tYes (tOp (rIn K false) (tVar 3) (tVar 1)) [3]) tNil))))) (te:=(tVar 2)) rfl ng.nd (pi_keys (pv 0)) (blkOk_by (N:=Se) (sc:=defScope Ik) (by decide +kernel)) (fun _ _ _ _ _=>(pg_name (i:=2) ng.nd rfl (.inl rfl))) (fun _ _ _ _ _=>(pts_one (PW.pt (Kl (pt_cmpR op_notIn_seq (pv 2) (pv 1) (by rfl)) (pw_and1 (Qo (Qs (cr_all rfl) rfl B.all boot_all (Qa (pe_lc (own:=[("kind",3)]) (g:=(gName 3)) (tt:=tYes) (te:=(tOp (rIn K false) (tVar 3) (tVar 1))) rfl ng.nd (pi_list (pe_dget (u1 hr) (pv 0) (pv 2) (fun _ _=>rfl))) (blkOk_by (N:=Se) (sc:={ kind:=.function,names:=[(".0",.local),(aN,.local),("all",.globalImplicit),(oT,.cell),("led",.cell)],isGenerator:=false,isCoroutine:=false }) (by decide +kernel)) (fun _ _ _ _ _=>(pg_name (i:=3) ng.nd rfl (.inl rfl))) (fun _ _ _ _ _=>pts_nil) (fun _ _ _ _ _=>(pe_cmpR op_in_seq (pv 3) (pv 1) (by rfl)))) Qb)))))))) (fun _ _ _ _ _=>(pv 2))))),?_⟩;have kY:=sizeLine_eq;have b8:=ok.len;have kl:=hk.length;refine ⟨d,_,hd,trivial,fun od=>?_⟩;have hL:∀ l xs,H l=some (.lst xs)->upd H d (.frz od (.dK aU)) l=some (.lst xs):=fun l xs h=>by rw [upd_ne (fun z=>by rw [z,hd] at h; cases h)]; exact h
 have hkL:=hk.keep hL;have heL:=hL _ _ he;have xS:upd H d (.frz od (.dK aU)) d=some (.frz od (.dK aU)):=Qt;have un:∀ H',SB [] (upd H d (.frz od (.dK aU))) H'->SB [] H (upd H' d (.dK aU)):=fun H' s=>s.unlock hd (fun _ z=>nomatch z) (fun _ _ z=>nomatch z);have dm:∀ p,upd H d (.frz od (.dK aU)) p=none->H p=none:=fun p h=>by
  have z:p ≠ d:=fun z=>by rw [z,Qt] at h; cases h
  rwa [upd_ne z] at h
 generalize upd H d _=HL at hkL heL xS un dm;refine ⟨_,Ja,d,od,Ja,.inl ⟨aU,xS,fun D nD=>?_⟩⟩;refine oU walk_keys nD (by omega) (fun i us _=>us=((b.names.take i).filter (into b es)).map V.str) rfl (fun H2 s2=>s2.frzs _ _ _ xS) (fun _ _ _ _ _ h=>h) (fun Pv i x Hq H2 us hi s2 y hR hu fin skip=>?_) (fun us H2 s2 bj hR hu=>?_)
 ·obtain ⟨rfl,k0,v0,ek,rfl⟩:=y;obtain ⟨kd,ekd,e0⟩:=hk.get ek;have e0:k0=Sum.inr kd.n:=e0;subst e0;have km:=Qu ekd;have ea:=C9 ok km;obtain ⟨l,ss,hv,hl,so⟩:=hkL.val (Bk.gI ok.nd km);have en:b.names[i]?=some kd.n:=by rw [List.getElem?_map,ekd]; rfl
  have pS:=s2.keep _ _ heL aL;have kO:=s2.keep _ _ hl aL;have hd2:=s2.frzs _ _ _ xS;have pP:((b.names.take (i+1)).filter (into b es)).map V.str=((b.names.take i).filter (into b es)).map V.str++(if into b es kd.n=true then [V.str kd.n] else []):=by
   rw [Yg,en,List.filter_append,Yj]
   congr 1
   by_cases z:into b es kd.n=true
   ·simp [z]
   ·simp [z]
  refine ⟨rfl,_,Ja,_,Ja,e,_,Ja,.inl (SqL.of pS),Ja,IG _,_,Ja,?_⟩;rw [if_pos rfl];show if (!inV (.str kd.n) (es.map V.str))=true then _ else _;rw [ID];by_cases h1:kd.n ∈ es
  ·rw [show (!decide (kd.n ∈ es))=false by simp [h1]];refine iteF (skip _ SB.refl ?_);rw [pP,show into b es kd.n=false by simp [into,h1],hR]; simp
  ·rw [show (!decide (kd.n ∈ es))=true by simp [h1]];refine iteT ?_;have sl:ss.length < 1000:=by
    have h2:=so.nd.length_le_of_subset (l₂:=b.names) fun x hx=>ok.led km x ((so.mem x).mp hx);rw [Ye] at h2;omega
   refine ⟨_,Ja,_,Ja,d,.ref l,Ja,zjr (.inr ⟨_,hd2⟩) hv,l,Ja,⟨_,SqL.of kO⟩,fun D2 Dw=>?_⟩;refine oU (walk_list (xs:=ss.map V.str)) Dw (by rw [Ye]; omega) (fun j us _=>us=((ss.take j).map fun k=>decide (k ∈ es)).map V.bl) rfl (fun H4 s4=>s4.fG aL (SqL.of kO)) (fun _ _ _ _ _ h=>h) (fun Pv j z Hq H4 us4 hj s4 y zV hu4 WT _=>?_) (fun us4 H4 s4 i6 zV hu4=>?_)
   ·obtain ⟨rfl,ez⟩:=y;rw [List.getElem?_map] at ez;obtain ⟨sx,ex,rfl⟩:=Kr ez;refine ⟨rfl,_,Ja,_,Ja,e,_,Ja,.inl (SqL.of (s4.keep _ _ pS aL)),Ja,IG _,?_⟩;refine WT _ _ SB.refl ?_;rw [zV,Yg,ex];simp [ID]
   ·subst zV;refine ⟨D2,_,Ja,SqL.of i6,_,Ja,?_⟩;have Xc:((ss.take (ss.map V.str).length).map fun k=>decide (k ∈ es)).all id=(adj b kd.n).all fun k=>decide (k ∈ es):=by
     rw [Ye,Yh,List.all_map,ea,<- zet so]; rfl
    rw [Xc];have ei:into b es kd.n=(adj b kd.n).all fun k=>decide (k ∈ es):=by unfold into; simp [h1]
    by_cases h3:((adj b kd.n).all fun k=>decide (k ∈ es))=true
    ·rw [h3];refine iteT ⟨_,Ja,fin _ _ s4 ?_⟩;rw [pP,ei,h3,hR]; rfl
    ·have h3:((adj b kd.n).all fun k=>decide (k ∈ es))=false:=by simpa using h3
     rw [h3];refine iteF (skip _ s4 ?_);rw [pP,ei,h3,hR]; simp
 ·subst hR;have hd2:=s2.frzs _ _ _ xS;have Dd:D ≠ d:=fun z=>by rw [z,xS] at nD; cases nD
  refine ⟨hd2,q D _ (un _ s2) (dm _ nD) ?_⟩;rw [upd_ne Dd,bj,kl,<- show b.names.length=b.length from List.length_map ..,Yh]
abbrev Yl:List Str:=[ah,oT,aN]
theorem qG:FnScope Yl [ah] (defScope HW):=fS
theorem zf8 {ag aq:Addr} (B:BI mg) (AE:Got P w K mg base cT [ah] (24) (S8 K ag aq)) (AN:GotM P w K mg base ag eS [bf] (1) (La K ag)) (F:Fun K cY cY HW f fd):FnOk P w K mg base CX0 (25) f fd [ah] (z82 K ag aq):=by
 refine F.ok qG (fun vs H Q E h=>?_) (fun _ A _ _ H vs Q E hr h=>?_)
 ·obtain ⟨v,b,rfl,_⟩:=h
  rfl
 obtain ⟨v,b,rfl,hv,ok,q⟩:=h;have bF:=bC hr;refine ⟨_,Qc (ps_set (i:=1) qG.nd rfl (.inr rfl) (aS AE (Hm hr) rfl (Qa (pv 0) Qb)))
  (Qe (Qj (Qs cr_sortedS rfl B.sorted (by decide +kernel) (Qa (pe_lc (own:=[(aN,2)]) (g:=(gName 2)) (tt:=(tTest (tOp (rIn K true) (tVar 2) (tVar 1)))) (te:=(tVar 2)) rfl qG.nd (pi_list (SO AN (Hm hr) (pv 0))) (blkOk_by (N:=Yl) (sc:=defScope HW) (by decide +kernel)) (fun _ _ _ _ _=>(pg_name (i:=2) qG.nd rfl (.inl rfl))) (fun _ _ _ _ _=>(pts_one (pt_cmpR op_notIn_seq (pv 2) (pv 1) (by rfl)))) (fun _ _ _ _ _=>(pv 2))) Qb)))),?_⟩
 have kY:=sizeLine_eq;have b8:=ok.len;refine ⟨_,Ja,v,b,Ja,hv,ok,fun l es H1 s1 nl hl eo=>?_⟩;have hm:∀ n ∈ b.names,n ∈ es ↔ EndK b n:=fun n hn=>⟨fun h=>((eo.mem n).mp h).2,fun h=>(eo.mem n).mpr ⟨hn,h⟩⟩;obtain ⟨va,yB,Ln,Lm,rfl,zF⟩:=hv.at;refine ⟨_,Ja,va,yB,_,Ja,s1.keep _ _ zF aL,Ja,?_⟩;refine ⟨_,b,Ja,hv.cH s1,by omega,fun Fs H2 s2 nn hn=>?_⟩;have kO:=s2.keep _ _ hl aL;refine ⟨Fs,Ja,⟨_,SqL.of hn⟩,fun D nD=>?_⟩;have nml:b.names.length=b.length:=List.length_map ..;refine oU (walk_list (xs:=b.names.map V.str)) nD (by rw [Ye]; omega) (fun i us _=>us=((b.names.take i).filter fun n=>decide (n ∉ es)).map V.str) rfl (fun H3 s3=>s3.fG aL (SqL.of hn)) (fun _ _ _ _ _ h=>h) (fun Pv i x Hq H3 us hi s3 y hR hu fin skip=>?_) (fun us H3 s3 b0 hR hu=>?_)
 ·obtain ⟨rfl,ey⟩:=y;rw [List.getElem?_map] at ey;obtain ⟨n,en,rfl⟩:=Kr ey;refine ⟨rfl,_,Ja,_,Ja,l,_,Ja,.inl (SqL.of (s3.keep _ _ kO aL)),Ja,IG _,_,Ja,?_⟩;rw [if_pos rfl,ID];have pP:((b.names.take (i+1)).filter fun n=>decide (n ∉ es)).map V.str=((b.names.take i).filter fun n=>decide (n ∉ es)).map V.str++(if n ∉ es then [V.str n] else []):=by
   rw [Yg,en,List.filter_append,Yj]
   congr 1
   by_cases z:n ∈ es
   ·simp [z]
   ·simp [z]
  by_cases h1:n ∈ es
  ·rw [show (!decide (n ∈ es))=false by simp [h1]];refine iteF (skip _ SB.refl ?_);rw [pP,if_neg (by simp [h1]),hR]; simp
  ·rw [show (!decide (n ∈ es))=true by simp [h1]];refine iteT ⟨_,Ja,fin _ _ SB.refl ?_⟩;rw [pP,if_pos h1,hR]
 ·rw [Ye,Yh] at hR;subst hR;refine ⟨D,_,Ja,SqL.of b0,?_,fun ys p pm srt np=>?_⟩
  ·have:=List.length_filter_le (fun n=>decide (n ∉ es)) b.names;omega
  have fy:=(s1.trans s2).trans s3;refine q p ys _ (fy.trans (Jb np _)) (fy.kS _ np) Qt srt (pm.nodup_iff.mpr (ok.nd.filter _)) fun n=>?_;rw [pm.mem_iff,List.mem_filter];simp only [decide_eq_true_eq];exact ⟨fun ⟨h1,h2⟩=>⟨h1,fun z=>h2 ((hm n h1).mpr z)⟩,fun ⟨h1,h2⟩=>⟨h1,fun z=>h2 ((hm n h1).mp z)⟩⟩
abbrev zjd:List Str:=[ah,ao,"endless","kind"]
theorem uS:FnScope zjd [ah,ao] (defScope KH):=fS
theorem zgc {cz ag aq:Addr} (B:BI mg) (lT:OwnI P w K mg base "Endless" cz 1) (Pd:Got P w K mg base cY [ah] (25) (z82 K ag aq)) (AA:Got P w K mg base cQ [ao] (71) (S3 K)) (F:Fun K dW dW KH f fd):FnOk P w K mg base (L2.CX P w) (72) f fd [ah,ao] (Sv K ag aq cz):=by
 refine F.okX uS (fun vs H Q E h=>?_) (fun _ A _ _ H vs Q E hr h=>?_)
 ·obtain ⟨v,w,b,g,rfl,_⟩:=h
  rfl
 obtain ⟨v,w,b,g,rfl,hv,ok,hg,hd,hp,hk,q,qE⟩:=h;have bF:=bC hr;refine ⟨_,Qc (ps_set (i:=2) uS.nd rfl (.inl rfl) (aS Pd (Hm hr) rfl (Qa (pv 0) Qb)))
  (Qe (ps_for (passes_of rfl) rfl (pi_list (aS AA (Hm hr) rfl (Qa (pv 1) Qb))) (pg_name (i:=3) uS.nd rfl (.inl rfl))
   (Qe (Qr (pt_cmpR op_in_seq (pv 3) (pv 2) (by rfl)) (Qe (ps_raise rfl (takes_of rfl rfl rfl rfl) (Z4 lT (Hm hr) rfl (pv 3)))) pss_nil)))),?_⟩
 refine ⟨_,Ja,v,b,Ja,hv,ok,fun l ss H1 s1 nl hl srt nd hm=>?_⟩;refine ⟨_,Ja,w,g,b.names,Ja,hg.sb s1,hd,hp,hk,by rw [Ye]; have:=ok.len; omega,fun l2 ss2 H2 s2 Fs kO so sl=>?_⟩;refine ⟨l2,Ja,⟨_,SqL.of kO⟩,?_⟩;have vC:=s2.keep _ _ hl aL;have mG:=s1.trans s2;refine for_it (walk_list (xs:=ss2.map V.str)) (fun i σ H3=>SB [] H2 H3/\(∀ m ∈ ss2.take i,¬ ¬ EndK b m)/\∃ o3,σ=[some v,some w,some (.ref l),o3]) ⟨SB.refl,by simp,none,Ja⟩ (fun i σ H3 hi h3=>h3.1.fG aL (SqL.of kO)) (fun i x σ Hq H3 hi h3 y=>?_) (fun σ H3 h3=>?_)
 ·obtain ⟨s3,Ak,o3,rfl⟩:=h3;obtain ⟨rfl,ey⟩:=y;rw [List.getElem?_map] at ey;obtain ⟨k,ek,rfl⟩:=Kr ey;obtain ⟨p,eY,e⟩:=Qx ((so.mem k).mp (Qu ek));have kb:k ∈ b.names:=e ▸ hk p eY;refine ⟨_,Ja,_,Ja,l,_,Ja,.inl (SqL.of (s3.keep _ _ vC aL)),Ja,IG _,?_⟩;rw [ID];by_cases he:EndK b k
  ·rw [show decide (k ∈ ss)=false from Qz fun z=>((hm k).mp z).2 he];refine ⟨_,Ja,iteF ⟨s3,fun m rB=>?_,_,Ja⟩⟩;rw [Yg,ek] at rB;rcases Qw rB with z | z
   ·exact Ak m z
   ·rw [Qy z]; exact fun z=>z he
  ·rw [show decide (k ∈ ss)=true from Ya ((hm k).mpr ⟨kb,he⟩)];refine ⟨_,Ja,iteT ⟨_,Ja,fun x nx=>?_⟩⟩;have fy:=mG.trans s3;exact qE k (.at so ek he Ak) x _ (fy.trans (SB.new nx _)) (fy.kS _ nx) Qt
 ·obtain ⟨s3,Ak,o3,rfl⟩:=h3;rw [Ye,Yh] at Ak;exact q (fun x hx=>Classical.byContradiction fun z=>Ak x.1.1 ((so.mem _).mpr (Ku ⟨x,hx,Ja⟩)) z) _ (mG.trans s3)
end
section
variable {P:Program} {w:World} {K:Qn} {mg:Str->Option Value} {base:Heap} {f:Addr} {fd:FuncData} {ps:List Addr}
theorem zgw:FnScope [bO] [bO] (defScope Kg):=fS
theorem zfx (F:Fun K jc jc Kg f fd):FnOk P w K mg base CX0 1 f fd [bO] (ZU K):=by
 refine F.ok zgw (fun vs H Q E h=>?_) (fun _ A _ _ H vs Q E hr h=>?_)
 ·obtain ⟨v,rfl,_⟩:=h
  rfl
 obtain ⟨i,rfl,q⟩:=h;refine ⟨_,Qc (Qr (pt_cmpR op_eq (pv 0) Qg (nomark _)) (Qe (Qj (Ka Qb))) pss_nil)
  (Qe (Qj (Ka (Qa (Ka (Qa (Ka Qb) (Qa (pv 0) Qb))) Qb)))),?_⟩
 refine ⟨_,Ja,Ja,_,Ja,?_⟩;refine ite2 (fun c=>?_) (fun c=>?_)
 ·have c':V.int i=V.int 0:=Ks c
  injection c' with c'
  subst c';refine ⟨(Z0),fun p hp=>?_⟩;exact q _ _ (SB.new hp _) (uf (SqT.of Qt))
 ·have c':¬ V.int i=V.int 0:=of_decide_eq_false (Bool.eq_false_iff.mpr c);have c2:¬ i=0:=fun z=>c' (by rw [z]);refine ⟨(Z0),fun p1 h1=>?_⟩;refine ⟨_,Ja,(dU),fun p2 h2=>?_⟩;refine ⟨(Z1),fun p3 h3=>?_⟩;have e1:SB [] H (upd H p1 (.tup [])):=SB.new h1 _;have e2:=Jb h2 (.tup [.ref p1,.int i]);have e3:=Jb h3 (.tup [.ref p2]);refine q _ _ (e1.trans (e2.trans e3)) ?_;have e:Lad.num i=.cons .nil i .nil:=if_neg c2;rw [e];exact KJ (SqT.of Qt) (e3.aH (SqT.of Qt)) ((uf (SqT.of Qt)).sb (e2.trans e3))
end
section
variable {P:Program} {w:World} {K:Qn} {mg:Str->Option Value} {base:Heap} {f:Addr} {fd:FuncData} {ps:List Addr}
theorem zfo:FnScope [bq,aF] [bq,aF] (defScope Ih):=fS
theorem zga (F:Fun K cX cX Ih f fd):FnOk P w K mg base CX0 1 f fd [bq,aF] (Bn K):=by
 refine F.ok zfo (fun vs H Q E h=>?_) (fun vL A _ s H vs Q E hr h=>?_)
 ·obtain ⟨v,u,l,k,rfl,_⟩:=h
  rfl
 obtain ⟨v,u,l,k,rfl,hv,hu,hd,q⟩:=h;refine ⟨_,Qe (Qj (pe_cmpR (YJ (by have:=hr.un; show A.units+3+100 < cLine; have h3:(A.deeper (envOfC cX (defScope Ih) s.heap.objs.size f vL)).units=A.units+3:=rfl; omega)) (pv 0) (pv 1) (nomark _))),?_⟩;have:=l.eO;exact ⟨_,Ja,_,Ja,l.enc,k.enc,hv,hu,l.dQ k,l.Ac,by omega,q⟩
end
section
variable {P:Program} {w:World} {K:Qn} {mg:Str->Option Value} {base:Heap} {f:Addr} {fd:FuncData}
theorem uT:FnScope [bq,aF,wQ] [bq,aF] (defScope JM):=fS
theorem zhf (B:BI mg) (F:Fun K eE eE JM f fd):FnOk P w K mg base CX0 1 f fd [bq,aF] (Zl K):=by
 refine F.ok uT (fun vs H Q E h=>?_) (fun _ A _ _ H vs Q E hr h=>?_)
 ·obtain ⟨v,u,l,k,rfl,_⟩:=h
  rfl
 obtain ⟨v,u,l,o,rfl,hv,hu,hd,hd2,hp,eY,q⟩:=h;have bF:=bC hr;refine ⟨_,Qc (ps_set (i:=2) uT.nd rfl (.inl rfl) Qg)
  (Qc (ps_while PassesOwn.never (PW.pt (Kl (pt_cmpR op_lt (pv 2) (Qs (call_min2 rfl) rfl B.min boot_min (Qa (Qs call_len_seq rfl B.len PySem.boot_len (Qa (pv 0) Qb)) (Qa (Qs call_len_seq rfl B.len PySem.boot_len (Qa (pv 1) Qb)) Qb))) (nomark _)) (pw_and1 (pt_cmpR (op_eqD (mb hr)) (Qm Ql (pv 0) (pv 2) (fun _ _=>rfl)) (Qm Ql (pv 1) (pv 2) (fun _ _=>rfl)) (nomark _)))))
   (Qe (ps_aug (i:=2) uT.nd rfl (.inl rfl) Qg ip_add)))
  (Qe (Qj (pv 2)))),?_⟩
 obtain ⟨a,xs,rfl,i5,gS⟩:=je hv;obtain ⟨b,ys,rfl,hZ,fQ⟩:=je hu;have xl:=gS.length;have yl:=fQ.length;refine ⟨fun mm σ H2=>∃ k:Nat,mm=l.ps.length-k/\H2=H/\σ=[some (.ref a),some (.ref b),some (.int (k:Int))]/\k<=l.ps.length/\k<=o.ps.length/\l.alh o=k+(Lad.ofPs (l.ps.drop k)).alh (Lad.ofPs (o.ps.drop k)),⟨_,0,Ja,Ja,Ja,Nat.zero_le _,Nat.zero_le _,by rw [List.drop_zero,List.drop_zero,Lad.aE,Lad.aE,Nat.zero_add]⟩,fun mm σ H2 h2=>?_⟩;obtain ⟨k,rfl,rfl,rfl,kl,ko,he⟩:=h2;refine ⟨_,Ja,_,Ja,a,xs,Ja,.inr i5,_,Ja,b,ys,Ja,.inr hZ,_,_,Ja,_,_,Ja,Ja,_,Ja,?_⟩;have fin:¬ (k < l.ps.length/\k < o.ps.length)->Q (.int (k:Nat)) H2:=fun hh=>by
  rw [Lad.CV hh,Nat.add_zero] at he;rw [<- he]; exact q
 by_cases cZ:k < l.ps.length/\k < o.ps.length
 ·have c1:decide ((k:Int) < (if ((ys.length:Nat):Int) < (xs.length:Nat) then ((ys.length:Nat):Int) else (xs.length:Nat)))=true:=Ya (by split <;> omega);rw [c1];refine iteT ?_;have DF:xs[k]?=some xs[k]:=Kp (by omega);have DC:ys[k]?=some ys[k]:=Kp (by omega);obtain ⟨p1,Ab,g9⟩:=gS.get DF;obtain ⟨p2,yo,Cb⟩:=fQ.get DC;have d1:=l.av p1 (Qu Ab);have d2:=o.av p2 (Qu yo);rw [Lad.Am Ab yo] at he;refine ⟨_,Ja,_,Ja,a,xs,_,_,Ja,Ja,i5,atI_nat DF,_,Ja,_,Ja,b,ys,_,_,Ja,Ja,hZ,atI_nat DC,Lad.aC p1,Lad.aC p2,g9,Cb,Lad.fM (by omega),Lad.fM (by omega),_,Ja,?_⟩;rw [Lad.tL];by_cases hh:p1.1=p2.1/\p1.2=p2.2
  ·rw [show (decide (p1.1=p2.1)&&decide (p1.2=p2.2))=true by simp [hh.1,hh.2]];refine iteT ?_;rw [if_pos hh] at he;refine ⟨_,fun σ' H' z=>z,?_⟩;exact ⟨_,Ja,_,_,Ja,Ja,l.ps.length-(k+1),by omega,k+1,Ja,Ja,Ja,by omega,by omega,by omega⟩
  ·rw [show (decide (p1.1=p2.1)&&decide (p1.2=p2.2))=false by
    rw [Bool.and_eq_false_iff];by_cases h1:p1.1=p2.1
    ·exact .inr (Qz fun h2=>hh ⟨h1,h2⟩)
    ·exact .inl (Qz h1)]
   refine iteF ?_;rw [if_neg hh,Nat.add_zero] at he;refine ⟨_,Ja,?_⟩;rw [<- he]; exact q
 ·have c1:decide ((k:Int) < (if ((ys.length:Nat):Int) < (xs.length:Nat) then ((ys.length:Nat):Int) else (xs.length:Nat)))=false:=Qz (by split <;> omega);rw [c1];refine iteF ?_;exact ⟨_,Ja,fin cZ⟩
abbrev Ym:List Str:=[bq,aF,"exponent",bO,"kept","alike","pair"]
theorem jB:FnScope Ym [bq,aF] (defScope HY):=fS
theorem zh4 (B:BI mg) (GL:Got P w K mg base cX [bq,aF] 1 (Bn K)) (GM:Got P w K mg base ij [gK,aD] 1 (SQ K)) (F:Fun K gL gL HY f fd):FnOk P w K mg base CX0 2 f fd [bq,aF] (K5 K):=by
 refine F.ok jB (fun vs H Q E h=>?_) (fun _ A _ _ H vs Q E hr h=>?_)
 ·obtain ⟨v,u,l,k,rfl,_⟩:=h
  rfl
 obtain ⟨v,u,l,k,rfl,hv,hu,hd,hd2,hp,eY,q⟩:=h;refine ⟨_,Qc (Qr (Qp (pt_truth (pv 1) (by intro _; rfl))) (Qe (Qj (pv 0))) pss_nil)
  (Qc (ps_asg (Qm Ql (pv 1) Qg (fun _ _=>rfl)) (pg_tup rfl (Qi (pg_name (i:=2) jB.nd rfl (.inr rfl)) (Qi (pg_name (i:=3) jB.nd rfl (.inl rfl)) pgs_nil))))
  (Qc (ps_set (i:=4) jB.nd rfl (.inl rfl) (pe_callTy call_tuple_of rfl B.tuple boot_tuple (Qa
   (pe_lc (own:=[("pair",6)]) (g:=gName 6) (tt:=tB (tCall (Bn K) [] E0 (tCons (tVar 2) (tCons (tOp (rIxT K) (tVar 6) (tC (.int 0))) tNil)))) (te:=tVar 6) rfl jB.nd (pi_tup (pv 0))
    (blkOk_by (N:=Ym) (sc:=defScope HY) (by decide +kernel))
    (fun _ _ _ _ _=>pg_name (i:=6) jB.nd rfl (.inl rfl))
    (fun _ _ _ _ _=>pts_one (Qo (aS GL hr rfl (Qa (pv 2) (Qa (Qm Ql (pv 6) Qg (fun _ _=>rfl)) Qb)))))
    (fun _ _ _ _ _=>pv 6)) Qb)))
  (Qc (ps_set (i:=5) jB.nd rfl (.inl rfl) (aS GM hr rfl (Qa (pv 0) (Qa (pv 2) Qb))))
  (Qe (Qj (pe_op yc (pe_op yc (pv 4) (Ka (Qa (Ka (Qa (pv 2) (Qa (pe_op Ko (pv 5) (pv 3)) Qb))) Qb))) (pe_slice yq (pv 1) (po_some Qg) po_none))))))),?_⟩
 obtain ⟨b,ys,rfl,hZ,fQ⟩:=je hu;refine ⟨_,Ja,_,.inr (.inl ⟨ys,hZ,Ja⟩),?_⟩;cases k with
 | nil =>
  cases fQ;refine iteT ?_;exact ⟨_,Ja,q v H SB.refl hv⟩
 | cons e m r =>
  rw [show (Lad.cons e m r).ps=(e,m)::r.ps from rfl] at fQ;cases fQ with
  | @cons y0 yr _ _ h0 pT =>
  refine iteF ?_;obtain ⟨c,ue,rfl,jQ,hle⟩:=jW h0;refine ⟨_,Ja,b,_,_,_,Ja,Ja,hZ,atI_nat (j:=0) rfl,c,_,Ja,jQ,Ja,_,_,Ja,_,_,Ja,Ja,?_⟩;obtain ⟨a,xs,rfl,i5,gS⟩:=je hv;have bl:=gS.length;have lp:=l.aM;rw [<- Lad.a7] at lp;have ed:e.deep < (Lad.cons e m r).deep:=Lad.av (.cons e m r) (e,m) (bw ..);refine ⟨_,Ja,a,Ja,⟨xs,i5⟩,fun D hD=>?_⟩;refine lc_it (walk_tup (xs:=xs)) (fun i H2=>SB [D] H H2/\∃ acc,H2 D=some (.lst acc)/\Bears K H2 Lad.aC acc ((l.ps.take i).filter fun p=>e.lt p.1)) ⟨SB.new hD _,[],Qt,.nil⟩ (fun i H2 hi h2=>(h2.1.drop hD).aH i5) (fun i x H2 H' hi h2 y=>?_) (fun H2 h2=>?_)
  ·obtain ⟨s2,acc,bj,dv⟩:=h2;obtain ⟨rfl,ex⟩:=y;have j3:=s2.drop hD;obtain ⟨b1,eb,Cy⟩:=gS.get ex;obtain ⟨ad,ux,rfl,dS,vB⟩:=jW Cy;refine ⟨rfl,?_⟩;refine ⟨_,Ja,_,Ja,ad,_,_,_,Ja,Ja,j3.aH dS,atI_nat (j:=0) rfl,ue,ux,e,b1.1,Ja,hle.sb j3,vB.sb j3,by omega,_,Ja,?_⟩;have al:=dv.length;have fl:=List.length_filter_le (fun p:Lad × Int=>e.lt p.1) (l.ps.take i);rw [Kx] at fl;cases hc:e.lt b1.1 with
   | true =>
    refine iteT ?_;refine ⟨_,Ja,acc,bj,wU (by omega),?_⟩;have t9:=SB.set (ps:=[D]) bj (by simp) (.lst (acc++[.ref ad]));refine ⟨s2.trans t9,_,Qt,?_⟩;rw [Yg,eb,List.filter_append];refine Bears.append (dv.sb t9 Lad.ae) ?_;have:([b1]:List (Lad × Int)).filter (fun p=>e.lt p.1)=[b1]:=by simp [hc]
    show Bears K _ Lad.aC _ (([b1]:List (Lad × Int)).filter (fun p=>e.lt p.1));rw [this];exact .cons (fc t9 _ _ (Lad.ae _) (fc j3 _ _ (Lad.ae _) Cy)) .nil
   | false =>
    refine iteF ?_;refine ⟨s2,acc,bj,?_⟩;rw [Yg,eb,List.filter_append];simpa [hc] using dv
  ·obtain ⟨s2,acc,bj,dv⟩:=h2;rw [bl,Yh] at dv;have j3:=s2.drop hD;refine ⟨D,acc,Ja,.inl ⟨SqL.of bj,fun kt Bb=>?_⟩⟩;have s3:=Jb Bb (.tup acc);have xt:=j3.trans s3;refine ⟨_,Ja,_,Ja,_,ue,l,e,Ja,hv.sb xt,hle.sb xt,by omega,by omega,by omega,fun H4 s4=>?_⟩;refine ⟨_,Ja,_,Ja,_,Ja,_,Ja,_,_,Ja,Ja,(dU),fun t1 FN=>?_⟩;have s5:=Jb FN (.tup [ue,.int (Lad.aG l.ps e+m)]);refine ⟨(Z1),fun t2 FL=>?_⟩;have s6:=Jb FL (.tup [.ref t1]);have al:=dv.length;have fl:=List.length_filter_le (fun p:Lad × Int=>e.lt p.1) l.ps;refine ⟨kt,t2,_,_,Ja,Ja,((s4.trans s5).trans s6).aH (SqT.of Qt),SqT.of Qt,by rw [Yi]; omega,fun c1 H7 s7 um=>?_⟩;have Lv:=((s4.trans s5).trans s6).trans s7;refine ⟨_,Ja,1,Ja,b,_,Ja,(xt.trans Lv).aH hZ,fun c2 H8 s8 kQ=>?_⟩;have e1:cutV (V.ref c::yr) (some 1) none=yr:=by
    have:=KR (V.ref c::yr) 1;exact this
   rw [e1] at kQ;have rl:=pT.length;have rp:=(Lad.cons e m r).aM;have rp2:r.ps.length+1=(Lad.cons e m r).len:=by rw [<- Lad.a7]; rfl
   refine ⟨c1,c2,_,_,Ja,Ja,s8.aH um,kQ,by rw [Yf,Yi]; omega,fun c3 H9 s9 uk=>?_⟩;refine q _ _ (((xt.trans Lv).trans s8).trans s9) ?_;rw [Lad.cM];refine uD uk ?_;have z1:SB [] _ H9:=(s3.trans Lv).trans (s8.trans s9);have z2:SB [] _ H9:=(s6.trans s7).trans (s8.trans s9);rw [List.append_assoc];refine Bears.append (dv.sb z1 Lad.ae) (.cons ?_ (pT.sb ((xt.trans Lv).trans (s8.trans s9)) Lad.ae));exact Dp.tup (z2.aH (SqT.of Qt)) (.cons (hle.sb (((xt.trans Lv).trans s8).trans s9)) (.cons (.int _) .nil))
theorem zg1:FnScope [bq,aF] [bq,aF] (defScope J0):=fS
theorem zg3 (G:Got P w K mg base bX [R6] 2 (PX K)) (F:Fun K EH EH J0 f fd):FnOk P w K mg base CX0 3 f fd [bq,aF] (YU K):=by
 refine F.ok zg1 (fun vs H Q E h=>?_) (fun _ A _ _ H vs Q E hr h=>?_)
 ·obtain ⟨v,u,l,k,rfl,_⟩:=h
  rfl
 obtain ⟨v,u,l,k,rfl,hv,hu,hd,hd2,hp,eY,q⟩:=h;refine ⟨_,Qe (Qj (aS G hr rfl (Qa (pe_lst (Qa (pv 0) (Qa (pv 1) Qb))) Qb))),?_⟩;have lp:=l.aM;have kp:=k.aM;rw [<- Lad.a7] at lp kp;refine ⟨_,Ja,_,Ja,(dU),fun p hp=>?_⟩;have s1:=Jb hp (.lst [v,u]);refine ⟨p,_,[l,k],Ja,SqL.of Qt,.cons (hv.sb s1) (.cons (hu.sb s1) .nil),fun x hx=>?_,by simp; omega,fun x H' s2 hx=>?_⟩
 ·simp at hx;rcases hx with rfl | rfl <;> assumption
 ·rw [Lad.Ah] at hx;exact q _ _ (s1.trans s2) hx
abbrev YP:List Str:=[R6,gK,aR,"pair"]
theorem qI:FnScope YP [R6] (defScope Im):=fS
theorem zfu (B:BI mg) (G:Got P w K mg base oS [gK] 1 (ZV K Lad.enc)) (F:Fun K bX bX Im f fd):FnOk P w K mg base CX0 2 f fd [R6] (PX K):=by
 refine F.ok qI (fun vs H Q E h=>?_) (fun _ A _ _ H vs Q E hr h=>?_)
 ·obtain ⟨a,xs,ls,rfl,_⟩:=h
  rfl
 obtain ⟨a,xs,ls,rfl,hs,hb,hd,hn,q⟩:=h;have bF:=bC hr;refine ⟨_,Qc (ps_setLc2 (i:=1) (own:=[(aR,2),("pair",3)]) (vs1:=[3]) (wi1:=iTup K (tVar 2)) (g:=gName 2) (g1:=gName 3) (tt:=tYes) (tt1:=tYes) (te:=tVar 3) rfl qI.nd rfl rfl (sw_true rfl rfl rfl (by decide +kernel)) (pi_list (pv 0))
   (blkOk_by (N:=YP) (sc:=defScope Im) (by decide +kernel)) (by simp)
   (fun _ _ _ _ _=>pg_name (i:=2) qI.nd rfl (.inl rfl)) (fun _ _ _ _ _=>pts_nil)
   (fun _ _ _ _ _=>pi_tup (pv 2)) (fun _ _ _ _ _=>pg_name (i:=3) qI.nd rfl (.inl rfl)) (fun _ _ _ _ _=>pts_nil) (fun _ _ _ _ _=>pv 3))
  (Qe (Qj (aS G hr rfl (Qa (pe_callBK (z9k Lad.aC (b:=true) (by show A.units+3+110 < cLine; omega)) rfl B.sorted (by decide +kernel) (Qa (pv 1) Qb) (pk_cons pe_bl pk_nil)) Qb)))),?_⟩
 have xl:=hb.length;refine ⟨_,Ja,a,Ja,⟨xs,hs⟩,fun D hD=>?_⟩;refine Fv (walk_list (xs:=xs)) (fun i H2=>SB [D] H H2/\∃ acc,H2 D=some (.lst acc)/\Bears K H Lad.aC acc ((ls.take i).flatMap Lad.ps)) ⟨SB.new hD _,[],Qt,.nil⟩ (fun i H2 hi h2=>(h2.1.drop hD).fG aL hs) (fun i x H2 H' hi h2 y=>?_) (fun H2 h2=>?_)
 ·obtain ⟨s2,acc,bj,CB⟩:=h2;obtain ⟨rfl,ex⟩:=y;obtain ⟨l,el,hl⟩:=hb.get ex;obtain ⟨c,ys,rfl,jQ,DQ⟩:=je hl;have yl:=DQ.length;refine ⟨rfl,?_⟩;refine ⟨_,Ja,c,Ja,⟨ys,(s2.drop hD).aH jQ⟩,?_⟩;have iL:(ls.take (i+1)).flatMap Lad.ps=(ls.take i).flatMap Lad.ps++l.ps:=by rw [Yg,el]; simp
  have hle:((ls.take (i+1)).flatMap Lad.ps).length<=1900000:=by
   have h1:ls.flatMap Lad.ps=(ls.take (i+1)).flatMap Lad.ps++(ls.drop (i+1)).flatMap Lad.ps:=by rw [<- List.flatMap_append,List.take_append_drop]
   rw [h1,Yf] at hn;omega
  refine Fv (walk_tup (xs:=ys)) (fun j H3=>SB [D] H H3/\∃ acc,H3 D=some (.lst acc)/\Bears K H Lad.aC acc ((ls.take i).flatMap Lad.ps++l.ps.take j)) ⟨s2,acc,bj,by simpa using CB⟩ (fun j H3 hj h3=>(h3.1.drop hD).aH jQ) (fun j x H3 H4 hj h3 y=>?_) (fun H3 h3=>?_)
  ·obtain ⟨s3,Ht,b0,tF⟩:=h3;obtain ⟨rfl,ex⟩:=y;obtain ⟨p,ep,hp⟩:=DQ.get ex;refine ⟨rfl,?_⟩;refine ⟨_,Ja,Ht,b0,?_,s3.trans (SB.set b0 (by simp) _),_,Qt,?_⟩
   ·rw [tF.length];rw [iL] at hle;refine wU ?_;rw [Yf,Kx] at *;omega
   ·rw [Yg,ep,<- List.append_assoc];exact Bears.append tF (.cons hp .nil)
  ·obtain ⟨s3,Ht,b0,tF⟩:=h3;refine ⟨s3,Ht,b0,?_⟩;rw [iL];rw [yl,Yh] at tF;exact tF
 ·obtain ⟨s2,acc,bj,CB⟩:=h2;rw [xl,Yh] at CB;have j3:=s2.drop hD;refine ⟨_,Ja,Ja,D,_,ls.flatMap Lad.ps,Ja,SqL.of bj,CB.sb j3 Lad.ae,Lad.nH _,Lad.fW _,by omega,fun p hp=>?_,fun p zs hp hz=>?_⟩
  ·have:=Lad.eL p;obtain ⟨l,hl,hp⟩:=List.mem_flatMap.mp hp;have:=hd l hl;have:=l.av p hp;omega
  have s3:=Jb hp (.lst zs);refine ⟨p,zs,Lad.mM (ls.flatMap Lad.ps),Ja,SqL.of Qt,hz.sb s3 Lad.ae,?_,fun b hb=>?_,fun c2 ws H3 s4 kQ gT=>?_⟩
  ·rw [(Lad.bG _).length_eq]; omega
  ·refine Lad.aA ?_;obtain ⟨l,hl,hp⟩:=List.mem_flatMap.mp ((Lad.bG _).mem_iff.mp hb);have:=hd l hl;have:=l.av b hp;omega
  ·exact q _ _ ((j3.trans s3).trans s4) (uD kQ gT)
abbrev ZX:List Str:=[aR,bO,"pair"]
theorem uO:FnScope ZX [aR,bO] (defScope HV):=fS
theorem zg4 (B:BI mg) (F:Fun K ig ig HV f fd):FnOk P w K mg base CX0 1 f fd [aR,bO] (K9 K):=by
 refine F.ok uO (fun vs H Q E h=>?_) (fun _ A _ _ H vs Q E hr h=>?_)
 ·obtain ⟨v,l,m,rfl,_⟩:=h
  rfl
 obtain ⟨v,l,m,rfl,hv,hp,ri,hm0,Ci,q⟩:=h;refine ⟨_,Qc (Qr (pt_cmpR op_eq (pv 1) Qg (nomark _)) (Qe (Qj (Ka Qb))) pss_nil)
  (Qe (Qj (pe_callTy call_tuple_of rfl B.tuple boot_tuple (Qa
   (pe_lc (own:=[("pair",2)]) (g:=gName 2) (tt:=tYes) (te:=tTup (tCons (tOp (rIxT K) (tVar 2) (tC (.int 0))) (tCons (tOp (rI CMulW fun i j=>.int (i*j)) (tOp (rIxT K) (tVar 2) (tC (.int 1))) (tVar 1)) tNil))) rfl uO.nd (pi_tup (pv 0))
    (blkOk_by (N:=ZX) (sc:=defScope HV) (by decide +kernel))
    (fun _ _ _ _ _=>pg_name (i:=2) uO.nd rfl (.inl rfl))
    (fun _ _ _ _ _=>pts_nil)
    (fun _ _ _ _ _=>Ka (Qa (Qm Ql (pv 2) Qg (fun _ _=>rfl)) (Qa (pe_op op_mulW (Qm Ql (pv 2) Qg (fun _ _=>rfl)) (pv 1)) Qb)))) Qb)))),?_⟩
 refine ⟨_,Ja,Ja,_,Ja,?_⟩;refine ite2 (fun c=>?_) (fun c=>?_)
 ·have c':V.int m=V.int 0:=Ks c
  injection c' with c'
  refine ⟨(Z0),fun t ht=>?_⟩;have e:l.bM m=.nil:=if_pos c';exact q _ _ (SB.new ht _) (by rw [e]; exact uf (SqT.of Qt))
 ·have c':¬ V.int m=V.int 0:=of_decide_eq_false (Bool.eq_false_iff.mpr c);have c2:¬ m=0:=fun z=>c' (by rw [z]);have e:l.bM m=Lad.ofPs (l.ps.map fun p=>(p.1,p.2*m)):=if_neg c2;obtain ⟨a,xs,rfl,i5,gS⟩:=je hv;have xl:=gS.length;have lp:=l.aM;rw [<- Lad.a7] at lp;refine ⟨_,Ja,a,Ja,⟨xs,i5⟩,fun D hD=>?_⟩;refine lc_it (walk_tup (xs:=xs)) (fun i H2=>SB [D] H H2/\∃ acc,H2 D=some (.lst acc)/\Bears K H2 Lad.aC acc ((l.ps.take i).map fun p=>(p.1,p.2*m))) ⟨SB.new hD _,[],Qt,.nil⟩ (fun i H2 hi h2=>(h2.1.drop hD).aH i5) (fun i x H2 H' hi h2 y=>?_) (fun H2 h2=>?_)
  ·obtain ⟨s2,acc,bj,dv⟩:=h2;obtain ⟨rfl,ex⟩:=y;have j3:=s2.drop hD;obtain ⟨b1,eb,Cy⟩:=gS.get ex;obtain ⟨ad,ux,rfl,dS,vB⟩:=jW Cy;have bz:=ri b1 (Qu eb);have al:=dv.length;rw [Ye,Kx] at al;refine ⟨rfl,?_⟩;refine ⟨_,Ja,ad,_,_,_,Ja,Ja,j3.aH dS,atI_nat (j:=0) rfl,_,Ja,ad,_,_,_,Ja,Ja,j3.aH dS,atI_nat (j:=1) rfl,_,Ja,_,_,Ja,Ja,wide_mul (a:=2000) (b:=2000) (by omega) (by omega) (by decide) (by decide) (by decide),(dU),fun t ht=>?_⟩;have t3:=SB.new (ps:=[D]) ht (.tup [ux,.int (b1.2*m)]);have b0:(upd H' t (.tup [ux,.int (b1.2*m)])) D=some (.lst acc):=by rw [upd_ne (ne_of_none bj ht)]; exact bj
   refine ⟨acc,b0,wU (by omega),?_⟩;have t4:=SB.set (ps:=[D]) b0 (by simp) (.lst (acc++[.ref t]));refine ⟨(s2.trans t3).trans t4,_,Qt,?_⟩;rw [Yg,eb,Yj];exact Bears.append ((dv.sb t3 Lad.ae).sb t4 Lad.ae) (.cons (Dp.tup (t4.aH (SqT.of Qt)) (.cons (((vB.sb j3).sb t3).sb t4) (.cons (.int _) .nil))) .nil)
  ·obtain ⟨s2,acc,bj,dv⟩:=h2;rw [xl,Yh] at dv;refine ⟨D,acc,Ja,.inl ⟨SqL.of bj,fun t ht=>?_⟩⟩;have t3:=Jb ht (.tup acc);refine q _ _ ((s2.drop hD).trans t3) ?_;rw [e];exact uD (SqT.of Qt) (dv.sb t3 Lad.ae)
abbrev zi9:List Str:=[bq,aF,wQ,"exponent",bO]
theorem qy:FnScope zi9 [bq,aF] (defScope JN):=fS
theorem zgy {C:Addr} (B:BI mg) (O:Own K mg "NoRest" C) (GL:Got P w K mg base cX [bq,aF] 1 (Bn K)) (GA:Got P w K mg base eE [bq,aF] 1 (Zl K)) (F:Fun K EF EF JN f fd):FnOk P w K mg base (L2.CX P w) 2 f fd [bq,aF] (YI K C):=by
 refine F.okX qy (fun vs H Q E h=>?_) (fun _ A _ _ H vs Q E hr h=>?_)
 ·obtain ⟨v,u,l,k,rfl,_⟩:=h
  rfl
 obtain ⟨v,u,l,o,rfl,hv,hu,hd,hd2,hp,eY,q,qE⟩:=h;have bF:=bC hr;refine ⟨_,Qc (Qr (Qo (aS GL hr rfl (Qa (pv 1) (Qa (pv 0) Qb)))) (Qe (ps_raise rfl (takes_of rfl rfl rfl rfl) (pmk_own PySem.F.excBase_ValueError O.q O.gC O.k (raises_own O.s O.t) rfl))) pss_nil)
  (PSs.nox (Qc (ps_set (i:=2) qy.nd rfl (.inl rfl) (aS GA hr rfl (Qa (pv 0) (Qa (pv 1) Qb))))
  (Qc (Qr (PW.pt (Kk (pt_cmpR op_eq (pv 2) (Qs call_len_seq rfl B.len PySem.boot_len (Qa (pv 0) Qb)) (nomark _)) (pw_or1 (pt_cmpR (op_neD (mb hr)) (Qm Ql (Qm Ql (pv 0) (pv 2) (fun _ _=>rfl)) Qg (fun _ _=>rfl)) (Qm Ql (Qm Ql (pv 1) (pv 2) (fun _ _=>rfl)) Qg (fun _ _=>rfl)) (nomark _)))))
   (Qe (Qj (pe_slice yq (pv 1) (po_some (pv 2)) po_none))) pss_nil)
  (Qc (ps_asg (Qm Ql (pv 1) (pv 2) (fun _ _=>rfl)) (pg_tup rfl (Qi (pg_name (i:=3) qy.nd rfl (.inl rfl)) (Qi (pg_name (i:=4) qy.nd rfl (.inl rfl)) pgs_nil))))
  (Qe (Qj (pe_op yc (Ka (Qa (Ka (Qa (pv 3) (Qa (pe_op op_sub (pv 4) (Qm Ql (Qm Ql (pv 0) (pv 2) (fun _ _=>rfl)) Qg (fun _ _=>rfl))) Qb))) Qb)) (pe_slice yq (pv 1) (po_some (pe_op Ko (pv 2) Qg)) po_none)))))))),?_⟩
 refine ⟨_,Ja,_,Ja,u,v,o,l,Ja,hu,hv,by omega,_,Ja,?_⟩;cases Jd:o.lt l with
 | true=>exact iteT (qE Jd)
 | false =>
 refine iteF ?_;have q:=q Jd;obtain ⟨a,xs,rfl,i5,gS⟩:=je hv;obtain ⟨b,ys,rfl,hZ,fQ⟩:=je hu;have xl:=gS.length;have yl:=fQ.length;refine ⟨_,Ja,_,Ja,_,_,l,o,Ja,hv,hu,by omega,by omega,by omega,by omega,?_⟩;obtain ⟨kl,ko,_,hle,vt,VX⟩:=Lad.tS l o;rw [Jd] at hle;have hle:=hle.symm;generalize l.alh o=k at *;have s2:SB [] H H:=SB.refl;have slc:∀ (H5:Hp),SB [] H H5->l.rst o=Lad.ofPs (o.ps.drop k)->∀ (c:Addr) (H':Hp),SB [] H5 H'->SqT K H' c (cutV ys (some (k:Int)) none)->Q (.ref c) H':=by
  intro H5 s5 e c H' s' hc;rw [KR] at hc;refine q _ _ ((s2.trans s5).trans s') ?_;rw [e];exact uD hc ((fQ.drop k).sb ((s2.trans s5).trans s') Lad.ae)
 refine ⟨_,Ja,_,Ja,a,xs,Ja,.inr (s2.aH i5),Ja,_,Ja,?_⟩;by_cases c:k=xs.length
 ·have e1:decide (V.int (k:Int)=V.int (xs.length:Nat))=true:=Ya (by rw [c]);rw [e1];refine iteT (iteT ?_);refine ⟨_,Ja,_,Ja,_,Ja,b,_,Ja,s2.aH hZ,fun c2 H8 s8 kQ=>?_⟩;refine slc H SB.refl ?_ c2 H8 s8 kQ;rw [vt,List.drop_eq_nil_of_le (show l.ps.length<=k by omega)];exact Lad.iY _
 have e1:decide (V.int (k:Int)=V.int (xs.length:Nat))=false:=Qz (fun z=>by injection z with z; omega);rw [e1];refine iteF ?_;have ko2:k < o.ps.length:=by
  rcases Nat.lt_or_ge k o.ps.length with h | h
  ·exact h
  ·rw [Lad.zq ko kl (by omega)] at hle;rw [show decide (k=o.ps.length)=true by simp; omega,show decide (k < l.ps.length)=true by simp; omega] at hle;cases hle
 have DF:xs[k]?=some xs[k]:=Kp (by omega);have DC:ys[k]?=some ys[k]:=Kp (by omega);obtain ⟨p1,Ab,g9⟩:=gS.get DF;obtain ⟨p2,yo,Cb⟩:=fQ.get DC;obtain ⟨a1,u1,ea1,lN,kP⟩:=jW g9;obtain ⟨a2,u2,ea2,dS,kO⟩:=jW Cb;rw [ea1] at DF g9;rw [ea2] at DC Cb;have d1:=l.av p1 (Qu Ab);have d2:=o.av p2 (Qu yo);rw [Lad.wz yo Ab] at hle;rw [Lad.yZ Ab yo] at vt;have VX:=VX p1 p2 Ab yo;by_cases he:p1.1=p2.1
 ·rw [if_pos he.symm] at hle;rw [if_pos he] at vt;have hm:¬ p1.2=p2.2:=fun z=>VX ⟨he,z⟩
  ·rw [if_neg hm] at vt;refine ⟨_,Ja,_,Ja,a,xs,_,_,Ja,Ja,s2.aH i5,atI_nat DF,a1,_,_,_,Ja,Ja,s2.aH lN,atI_nat (j:=0) rfl,_,Ja,_,Ja,b,ys,_,_,Ja,Ja,s2.aH hZ,atI_nat DC,a2,_,_,_,Ja,Ja,s2.aH dS,atI_nat (j:=0) rfl,p1.1.enc,p2.1.enc,kP.sb s2,kO.sb s2,Lad.aA (by omega),Lad.aA (by omega),_,Ja,?_⟩;rw [neF he];refine iteF ?_;refine ⟨_,Ja,_,Ja,b,ys,_,_,Ja,Ja,s2.aH hZ,atI_nat DC,a2,_,Ja,s2.aH dS,Ja,_,_,Ja,_,_,Ja,Ja,?_⟩;refine ⟨_,Ja,_,Ja,_,Ja,_,Ja,a,xs,_,_,Ja,Ja,s2.aH i5,atI_nat DF,a1,_,_,_,Ja,Ja,s2.aH lN,atI_nat (j:=1) rfl,_,_,Ja,Ja,(dU),fun t1 FN=>?_⟩;have s5:=Jb FN (.tup [u2,.int (p2.2-p1.2)]);refine ⟨(Z1),fun t2 FL=>?_⟩;have s6:=Jb FL (.tup [.ref t1]);have QV:=(s2.trans s5).trans s6;refine ⟨_,Ja,_,Ja,_,_,Ja,Ja,_,Ja,b,_,Ja,QV.aH hZ,fun c2 H8 s8 kQ=>?_⟩;have uk:SqT K H8 c2 (ys.drop (k+1)):=by
    have:=KR ys (k+1);rw [<- this];exact kQ
   have op:=o.aM;rw [<- Lad.a7] at op;refine ⟨t2,c2,_,_,Ja,Ja,s8.aH (SqT.of Qt),uk,by rw [Yi,List.length_drop]; omega,fun c4 H9 s9 V0=>?_⟩;have A3:=s8.trans s9;refine q _ _ (QV.trans A3) ?_;rw [vt];have z:=uD (bs:=(p1.1,p2.2-p1.2)::o.ps.drop (k+1)) V0 (.cons ?_ ((fQ.drop (k+1)).sb (QV.trans A3) Lad.ae))
   ·exact z
   ·rw [he];exact Dp.tup ((s6.trans A3).aH (SqT.of Qt)) (.cons (kO.sb (QV.trans A3)) (.cons (.int _) .nil))
 ·rw [if_neg he] at vt;refine ⟨_,Ja,_,Ja,a,xs,_,_,Ja,Ja,s2.aH i5,atI_nat DF,a1,_,_,_,Ja,Ja,s2.aH lN,atI_nat (j:=0) rfl,_,Ja,_,Ja,b,ys,_,_,Ja,Ja,s2.aH hZ,atI_nat DC,a2,_,_,_,Ja,Ja,s2.aH dS,atI_nat (j:=0) rfl,p1.1.enc,p2.1.enc,kP.sb s2,kO.sb s2,Lad.aA (by omega),Lad.aA (by omega),_,Ja,?_⟩;rw [show (!PyData.eqv p1.1.enc p2.1.enc)=true by rw [Lad.a5]; simp [he]];refine iteT ?_;refine ⟨_,Ja,_,Ja,_,Ja,b,_,Ja,s2.aH hZ,fun c2 H8 s8 kQ=>?_⟩;refine slc H SB.refl ?_ c2 H8 s8 kQ;have e2:o.ps[k]=p2:=(Kq yo).2;rw [vt,List.drop_eq_getElem_cons ko2,e2]
  rfl
theorem zh6:FnScope [aR] [aR] (defScope JD):=fS
theorem zfn (F:Fun K qg qg JD f fd):FnOk P w K mg base CX0 1 f fd [aR] (Sy K):=by
 refine F.ok zh6 (fun vs H Q E h=>?_) (fun _ A _ _ H vs Q E hr h=>?_)
 ·obtain ⟨v,l,rfl,_⟩:=h
  rfl
 obtain ⟨v,l,rfl,hv,q⟩:=h;refine ⟨_,Qe (Qj (Ka (Qa (Ka (Qa (pv 0) (Qa Qg Qb))) Qb))),?_⟩;refine ⟨_,Ja,(dU),fun p1 h1=>?_⟩;refine ⟨(Z1),fun p2 h2=>?_⟩;have e1:=Jb h1 (.tup [v,.int 1]);have e2:=Jb h2 (.tup [.ref p1]);exact q _ _ (e1.trans e2) (KJ (SqT.of Qt) (e2.aH (SqT.of Qt)) ((hv.sb e1).sb e2))
abbrev X5:List Str:=[bq,aF,"exponent","kept","pair"]
theorem nh:FnScope X5 [bq,aF] (defScope Ig):=fS
theorem zg8 (B:BI mg) (GL:Got P w K mg base cX [bq,aF] 1 (Bn K)) (GN:Got P w K mg base jc [bO] 1 (ZU K)) (GW:Got P w K mg base qg [aR] 1 (Sy K)) (GH:Got P w K mg base gL [bq,aF] 2 (K5 K)) (GB:Got P w K mg base EH [bq,aF] 3 (YU K)) (F:Fun K vU vU Ig f fd):FnOk P w K mg base CX0 4 f fd [bq,aF] (Zv K):=by
 refine F.ok nh (fun vs H Q E h=>?_) (fun _ A _ _ H vs Q E hr h=>?_)
 ·obtain ⟨v,u,l,k,rfl,_⟩:=h
  rfl
 obtain ⟨v,u,l,k,rfl,hv,hu,hd,hd2,hp,eY,q⟩:=h;have DH:=hr.mono (j:=1) (by decide);have Mq:=hr.mono (j:=2) (by decide);refine ⟨_,Qc (Qr (Qp (pt_truth (pv 1) (by intro _; rfl))) (Qe (Qj (aS GB hr rfl (Qa (pv 0) (Qa (aS GN DH rfl (Qa Qg Qb)) Qb))))) pss_nil)
  (Qc (ps_set (i:=2) nh.nd rfl (.inr rfl) (Qm Ql (Qm Ql (pv 1) Qg (fun _ _=>rfl)) Qg (fun _ _=>rfl)))
  (Qc (ps_set (i:=3) nh.nd rfl (.inl rfl) (pe_callTy call_tuple_of rfl B.tuple boot_tuple (Qa
   (pe_lc (own:=[("pair",4)]) (g:=gName 4) (tt:=tB (tCall (Bn K) [] E0 (tCons (tVar 2) (tCons (tOp (rIxT K) (tVar 4) (tC (.int 0))) tNil)))) (te:=tVar 4) rfl nh.nd (pi_tup (pv 0))
    (blkOk_by (N:=X5) (sc:=defScope Ig) (by decide +kernel))
    (fun _ _ _ _ _=>pg_name (i:=4) nh.nd rfl (.inl rfl))
    (fun _ _ _ _ _=>pts_one (Qo (aS GL DH rfl (Qa (pv 2) (Qa (Qm Ql (pv 4) Qg (fun _ _=>rfl)) Qb)))))
    (fun _ _ _ _ _=>pv 4)) Qb)))
  (Qe (Qj (aS GB hr rfl (Qa (pv 3) (Qa (aS GW DH rfl (Qa (aS GH Mq rfl (Qa (pv 2) (Qa (aS GN DH rfl (Qa Qg Qb)) Qb))) Qb)) Qb))))))),?_⟩
 obtain ⟨b,ys,rfl,hZ,fQ⟩:=je hu;refine ⟨_,Ja,_,.inr (.inl ⟨ys,hZ,Ja⟩),?_⟩;cases k with
 | nil =>
  cases fQ;refine iteT ?_;refine ⟨_,Ja,1,Ja,fun n1 H1 s1 Ba=>?_⟩;rw [Lad.wq] at Ba;exact ⟨v,n1,l,Lad.b9,Ja,hv.sb s1,Ba,by omega,by decide,by omega,by decide,fun x H' s2 hx=>q x H' (s1.trans s2) hx⟩
 | cons e m r =>
  rw [show (Lad.cons e m r).ps=(e,m)::r.ps from rfl] at fQ;cases fQ with
  | @cons y0 yr _ _ h0 pT =>
  refine iteF ?_;obtain ⟨c,ue,rfl,jQ,hle⟩:=jW h0;refine ⟨_,Ja,b,_,_,_,Ja,Ja,hZ,atI_nat (j:=0) rfl,c,_,_,_,Ja,Ja,jQ,atI_nat (j:=0) rfl,?_⟩;obtain ⟨a,xs,rfl,i5,gS⟩:=je hv;have bl:=gS.length;have lp:=l.aM;rw [<- Lad.a7] at lp;have ed:e.deep < (Lad.cons e m r).deep:=Lad.av (.cons e m r) (e,m) (bw ..);have ep:e.parts<=(Lad.cons e m r).parts:=by show e.parts<=1+e.parts+r.parts; omega
  refine ⟨_,Ja,a,Ja,⟨xs,i5⟩,fun D hD=>?_⟩;refine lc_it (walk_tup (xs:=xs)) (fun i H2=>SB [D] H H2/\∃ acc,H2 D=some (.lst acc)/\Bears K H2 Lad.aC acc ((l.ps.take i).filter fun p=>e.lt p.1)) ⟨SB.new hD _,[],Qt,.nil⟩ (fun i H2 hi h2=>(h2.1.drop hD).aH i5) (fun i x H2 H' hi h2 y=>?_) (fun H2 h2=>?_)
  ·obtain ⟨s2,acc,bj,dv⟩:=h2;obtain ⟨rfl,ex⟩:=y;have j3:=s2.drop hD;obtain ⟨b1,eb,Cy⟩:=gS.get ex;obtain ⟨ad,ux,rfl,dS,vB⟩:=jW Cy;refine ⟨rfl,?_⟩;refine ⟨_,Ja,_,Ja,ad,_,_,_,Ja,Ja,j3.aH dS,atI_nat (j:=0) rfl,ue,ux,e,b1.1,Ja,hle.sb j3,vB.sb j3,by omega,_,Ja,?_⟩;have al:=dv.length;have fl:=List.length_filter_le (fun p:Lad × Int=>e.lt p.1) (l.ps.take i);rw [Kx] at fl;cases hc:e.lt b1.1 with
   | true =>
    refine iteT ?_;refine ⟨_,Ja,acc,bj,wU (by omega),?_⟩;have t9:=SB.set (ps:=[D]) bj (by simp) (.lst (acc++[.ref ad]));refine ⟨s2.trans t9,_,Qt,?_⟩;rw [Yg,eb,List.filter_append];refine Bears.append (dv.sb t9 Lad.ae) ?_;have:([b1]:List (Lad × Int)).filter (fun p=>e.lt p.1)=[b1]:=by simp [hc]
    show Bears K _ Lad.aC _ (([b1]:List (Lad × Int)).filter (fun p=>e.lt p.1));rw [this];exact .cons (fc t9 _ _ (Lad.ae _) (fc j3 _ _ (Lad.ae _) Cy)) .nil
   | false =>
    refine iteF ?_;refine ⟨s2,acc,bj,?_⟩;rw [Yg,eb,List.filter_append];simpa [hc] using dv
  ·obtain ⟨s2,acc,bj,dv⟩:=h2;rw [bl,Yh] at dv;have j3:=s2.drop hD;refine ⟨D,acc,Ja,.inl ⟨SqL.of bj,fun kt Bb=>?_⟩⟩;have s3:=Jb Bb (.tup acc);have xt:=j3.trans s3;have kept:LA K (upd H2 kt (.tup acc)) (.ref kt) (Lad.ofPs (l.ps.filter fun p=>e.lt p.1)):=uD (SqT.of Qt) (dv.sb s3 Lad.ae);refine ⟨_,Ja,_,Ja,1,Ja,fun n1 H4 s4 Ba=>?_⟩;rw [Lad.wq] at Ba;refine ⟨ue,n1,e,Lad.b9,Ja,(hle.sb xt).sb s4,Ba,by omega,by decide,by omega,by decide,fun x1 H5 s5 tu=>?_⟩;refine ⟨x1,_,Ja,tu,fun x2 H6 s6 om=>?_⟩;have b1:=Lad.fC e Lad.b9;have b2:=Lad.eV (n:=29) (l:=e) (k:=Lad.b9) (by omega) (by decide);have b3:=Lad.gU l fun p=>e.lt p.1;have b4:Lad.b9.parts=1:=rfl;refine ⟨.ref kt,x2,_,_,Ja,((kept.sb s4).sb s5).sb s6,om,Yb (Lad.iM _ hd) (by decide),by show max (1+(Lad.cI e Lad.b9).deep) 0<=30; omega,by omega,by show 1+(Lad.cI e Lad.b9).parts+0<=800000; omega,fun x H' s7 hx=>?_⟩;exact q x H' (((xt.trans s4).trans s5).trans (s6.trans s7)) hx
theorem zgn:FnScope [bq,aF] [bq,aF] (defScope JV):=fS
theorem zfy (GW:Got P w K mg base qg [aR] 1 (Sy K)) (GH:Got P w K mg base gL [bq,aF] 2 (K5 K)) (F:Fun K oQ oQ JV f fd):FnOk P w K mg base CX0 3 f fd [bq,aF] (Zx K):=by
 refine F.ok zgn (fun vs H Q E h=>?_) (fun _ A _ _ H vs Q E hr h=>?_)
 ·obtain ⟨v,u,e,m,r,k,rfl,_⟩:=h
  rfl
 obtain ⟨v,u,e,m,r,k,rfl,hv,hu,hd,hd2,hp,eY,q⟩:=h;have DH:=hr.mono (j:=1) (by decide);refine ⟨_,Qc (Qr (Qp (pt_truth (pv 1) (by intro _; rfl))) (Qe (Qj (pv 0))) pss_nil)
  (Qe (Qj (aS GW DH rfl (Qa (aS GH hr rfl (Qa (Qm Ql (Qm Ql (pv 0) Qg (fun _ _=>rfl)) Qg (fun _ _=>rfl)) (Qa (pv 1) Qb))) Qb)))),?_⟩
 obtain ⟨b,ys,rfl,hZ,fQ⟩:=je hu;refine ⟨_,Ja,_,.inr (.inl ⟨ys,hZ,Ja⟩),?_⟩;cases k with
 | nil =>
  cases fQ;refine iteT ?_;exact ⟨_,Ja,q v H SB.refl hv⟩
 | cons e2 m2 r2 =>
  rw [show (Lad.cons e2 m2 r2).ps=(e2,m2)::r2.ps from rfl] at fQ;cases fQ with
  | @cons y0 yr _ _ h0 pT =>
  refine iteF ?_;obtain ⟨a,xs,rfl,i5,gS⟩:=je hv;rw [show (Lad.cons e m r).ps=(e,m)::r.ps from rfl] at gS;cases gS with
  | @cons x0 xr _ _ g0 gbr =>
  obtain ⟨c,ue,rfl,jQ,hle⟩:=jW g0;have ed:e.deep < (Lad.cons e m r).deep:=Lad.av (.cons e m r) (e,m) (bw ..);have ep:e.parts<=(Lad.cons e m r).parts:=by show e.parts<=1+e.parts+r.parts; omega
  refine ⟨_,Ja,a,_,_,_,Ja,Ja,i5,atI_nat (j:=0) rfl,c,_,_,_,Ja,Ja,jQ,atI_nat (j:=0) rfl,_,Ja,ue,_,e,_,Ja,hle,hu,by omega,by omega,by omega,by omega,fun x1 H1 s1 tu=>?_⟩;exact ⟨x1,_,Ja,tu,fun x H' s2 hx=>q x H' (s1.trans s2) hx⟩
abbrev zj1:List Str:=[ah,ao]
theorem zhv:FnScope zj1 [ah,ao] (defScope JW):=fS
theorem zgg {ag aq cz:Addr} (B:BI mg) (AG:GotX P w K mg base dq [ah,ao] (72) (S5 K ag aq)) (AH:GotX P w K mg base dW [ah,ao] (72) (Sv K ag aq cz)) (iT:Got P w K mg base cf [ah,bt,ao] (45) (Bo K ag 20)) (Ay:Got P w K mg base eZ [ah] (47) (Tf K ag aq)) (F:Fun K EG EG JW f fd):FnOk P w K mg base (L2.CX P w) (73) f fd [ah,ao] (Zg K ag aq cz):=by
 refine F.okX zhv (fun vs H Q E h=>?_) (fun _ A _ s H vs Q E hr h=>?_)
 ·obtain ⟨v,w,b,ρ,g,rfl,_⟩:=h
  rfl
 obtain ⟨v,w,b,ρ,g,rfl,hv,ok,ow,hg,hd,hp,hk,he,fe,q⟩:=h;have bF:=bC hr;refine ⟨_,Qc (Kf (pB AG (Hm hr) rfl (takes_of rfl rfl rfl rfl) (Qa (pv 0) (Qa (pv 1) Qb))))
  (Qc (Kf (pB AH (Hm hr) rfl (takes_of rfl rfl rfl rfl) (Qa (pv 0) (Qa (pv 1) Qb))))
  (Qe (Qj (aS iT (Hm hr) rfl (Qa (pv 0) (Qa (aS Ay (Hm hr) rfl (Qa (pv 0) Qb)) (Qa (pv 1) Qb))))))),?_⟩
 have b8:=ok.len;refine ⟨_,Ja,_,Ja,v,w,b,g,b.names,Ja,hv,hg,by omega,by omega,by omega,hk,by rw [Ye]; omega,fun _ H1 s1=>?_,fun n hn=>absurd ?_ hn.out⟩
 rotate_left
 ·obtain ⟨x,hx,e⟩:=Qx hn.mem;exact e ▸ hk x hx
 refine ⟨_,Ja,_,Ja,v,w,b,g,Ja,hv.cH s1,ok,hg.sb s1,by omega,by omega,hk,fun _ H2 s2=>?_,fun n hn=>absurd ?_ hn.out⟩
 rotate_left
 ·obtain ⟨x,hx,e⟩:=Qx hn.mem;exact e ▸ he x hx
 have mG:=s1.trans s2;refine ⟨_,Ja,_,Ja,v,b,ρ,Ja,hv.cH mG,ok,ow,fun d es H3 s3 nd hw eo=>?_⟩;have fy:=mG.trans s3;refine ⟨_,Ja,v,w,d,b,ρ,es,g,Ja,hv.cH fy,by omega,hw,hg.sb fy,hd,fe es (fun n hn VP=>(eo.mem n).mpr ⟨hn,VP⟩),hp,fun x H' s hx=>q x H' (fy.trans s) hx⟩
abbrev X0:List Str:=[ah,"found",aN,cP]
theorem nf:FnScope X0 [ah] (defScope HP):=fS
theorem zfi {ag aq:Addr} (B:BI mg) (AE:Got P w K mg base cT [ah] (24) (S8 K ag aq)) (Aw:GotX P w K mg base bu [ah,aN] (5) (SR K ag aq)) (AF:Got P w K mg base qh [ah,bt,cP] (46) (KS K ag)) (F:Fun K eZ eZ HP f fd):FnOk P w K mg base CX0 (47) f fd [ah] (Tf K ag aq):=by
 refine F.ok nf (fun vs H Q E h=>?_) (fun _ A _ _ H vs Q E hr h=>?_)
 ·obtain ⟨v,b,ρ,rfl,_⟩:=h
  rfl
 obtain ⟨v,b,ρ,rfl,hv,ok,ow,q⟩:=h;have bF:=bC hr;refine ⟨_,Qc (ps_set (i:=1) nf.nd rfl (.inr rfl) pe_dnewK)
  (Qc (ps_for PassesOwn.never rfl (pi_list (aS AE (Hm hr) rfl (Qa (pv 0) Qb))) (pg_name (i:=2) nf.nd rfl (.inl rfl))
   (Qe (ps_dput (u1 hr) (pv 1) (pv 2) (Qs (zeb rfl (by show A.units+3+110 < cLine; omega)) rfl B.max boot_max (Qa (pe_lc (own:=[(cP,3)]) (g:=(gName 3)) (tt:=tYes) (te:=(tCall (KS K ag) [] E0 (tCons (tVar 0) (tCons (tVar 1) (tCons (tVar 3) tNil))))) rfl nf.nd (pi_list (KO Aw (Hm hr) rfl (Qa (pv 0) (Qa (pv 2) Qb)))) (blkOk_by (N:=X0) (sc:=defScope HP) (by decide +kernel)) (fun _ _ _ _ _=>(pg_name (i:=3) nf.nd rfl (.inl rfl))) (fun _ _ _ _ _=>pts_nil) (fun _ _ _ _ _=>(aS AF (Hm hr) rfl (Qa (pv 0) (Qa (pv 1) (Qa (pv 3) Qb)))))) Qb)) rfl)))
  (Qe (Qj (pv 1)))),?_⟩
 have kY:=sizeLine_eq;have b8:=ok.len;intro D nD;have t1:=Jb nD (.dK []);have rX:=dZ t1;generalize upd H D _=H1 at t1 rX;refine ⟨_,Ja,v,b,Ja,hv.cH t1,ok,fun l es H2 s2 nl hl eo=>?_⟩;have e8:=eo.len;refine ⟨l,Ja,⟨_,SqL.of hl⟩,?_⟩;have Dl:D ≠ l:=fun z=>by rw [<- z,rX] at nl; cases nl
 refine for_it (walk_list (xs:=es.map V.str)) (fun i σ H3=>SB [D] H2 H3/\(∃ o2:Option V,σ=[some v,some (.ref D),o2,none])/\oP K H3 D ρ (es.take i)) ⟨SB.refl,⟨none,Ja⟩,[],s2.keep _ _ rX aL,.nil⟩ (fun i σ H3 hi h3=>h3.1.fG (by simpa using fun z=>Dl z.symm) (SqL.of hl)) (fun i x σ Hq H3 hi h3 y=>?_) (fun σ H3 h3=>?_)
 ·obtain ⟨s3,⟨o2,rfl⟩,hR⟩:=h3;obtain ⟨rfl,ey⟩:=y;rw [List.getElem?_map] at ey;obtain ⟨n,en,rfl⟩:=Kr ey;have fy:SB [] H H3:=((t1.trans s2).nil.trans s3).drop nD;have hn:=(eo.mem n).mp (Qu en);obtain ⟨kd,eg⟩:=Bk.d8 hn.1;obtain ⟨km,rfl⟩:=Bk.get_some eg;obtain ⟨kn,r4,rr⟩:=ok.kd kd km;refine ⟨_,Ja,_,Ja,v,b,kd.n,Ja,hv.cH fy,by omega,fun k hk=>Yb (ok.kd k hk).2.1 (by decide),fun k' e' ll us H4 s4 Fq tD kR=>?_,fun z=>by rw [eg] at z; cases z⟩;rw [eg] at e';cases e';have ul:=kR.length;have zV:=hR.cH s4;have mf:=fy.trans s4;refine ⟨ll,Ja,⟨_,SqL.of tD⟩,fun D2 Dw=>?_⟩;refine oU (walk_list (xs:=us)) Dw (by rw [ul,Yk]; omega) (fun j ws H5=>Bears K H5 Lad.enc ws (((mj::kd.rs).take j).map (fh b ρ))) .nil (fun H5 s5=>s5.fG aL (SqL.of tD)) (fun j ws H5 H6 s6 h=>h.sb s6 Lad.af) (fun Pv j x Hq H5 ws hj s5 y mK Ml fin skip=>?_) (fun ws H5 s5 d7 mK Ml=>?_)
  ·obtain ⟨rfl,ey⟩:=y;obtain ⟨r,er,Ca⟩:=kR.get ey;have rm:=Qu er;have rf:vO b ρ (es.take i) r:=by
    rcases Qv rm with rfl | rm
    ·exact Sn b ρ _
    ·exact ow.fit kd km hn.2 _ (fun n h=>eo.ord i _ en n h) r rm
   have rp:r.1.parts+r.2.parts<=4:=by
    rcases Qv rm with rfl | rm
    ·decide
    ·exact (rr r rm).1.2.2
   have Ul:=oL r.1;have Uk:=oL r.2;refine ⟨rfl,_,Ja,_,Ja,_,Ja,v,x,D,b,ρ,es.take i,r,Ja,(hv.cH mf).cH s5,by omega,zV.cH s5,fc s5 _ _ (Ru.af _) Ca,by omega,by omega,by omega,by omega,rf,fun z H6 s6 hz=>fin z H6 s6 ?_⟩;rw [Yg,er,Yj];exact (mK.sb s6 Lad.af).append (.cons hz .nil)
  ·rw [ul,Yh,Ky,show fh b ρ mj=Lad.b9 from KI b ρ] at mK;have DV:=zV.cH s5;refine ⟨D2,ws,Lad.b9,kd.rs.map (fh b ρ),Ja,SqL.of d7,mK,fun l Gb=>?_,fun x hx=>?_⟩
   ·rcases Qv Gb with rfl | Gb
    ·decide
    ·obtain ⟨r,rm,rfl⟩:=Qx Gb;exact ow.deep kd km hn.2 r rm
   rw [<- ow.own kd km hn.2] at hx;have fresh:kd.n ∉ es.take i:=fun z=>by
    obtain ⟨j,hj,ej⟩:=List.getElem_of_mem z;rw [List.getElem_take] at ej;rw [Kx] at hj;have e2:=List.getElem_of_getElem? en;obtain ⟨Gi,e2⟩:=e2;exact List.pairwise_iff_getElem.mp eo.nd j i (by omega) Gi (by omega) (ej.trans e2.symm)
   obtain ⟨H6,FZ,s6,hR7⟩:=DV.put fresh (by rw [Kx]; omega) hx;refine ⟨_,Ja,_,Ja,D,H6,Ja,FZ,?_,⟨_,Ja⟩,?_⟩
   ·exact (s3.trans (s4.trans s5).nil).trans s6
   ·rw [Yg,en];exact hR7
 ·obtain ⟨s3,⟨o2,rfl⟩,hR⟩:=h3;rw [Ye,Yh] at hR;exact ⟨_,Ja,q D es _ (((t1.trans s2).nil.trans s3).drop nD) nD hR eo⟩
abbrev zie:List Str:=[ah,bt,cP,"once","each"]
theorem uR:FnScope zie [ah,bt,cP] (defScope JZ):=fS
theorem zh2 {ag:Addr} (B:BI mg) (Pf:Got P w K mg base vU [bq,aF] (4) (Zv K)) (iT:Got P w K mg base cf [ah,bt,ao] (45) (Bo K ag 20)) (F:Fun K qh qh JZ f fd):FnOk P w K mg base CX0 (46) f fd [ah,bt,cP] (KS K ag):=by
 refine F.ok uR (fun vs H Q E h=>?_) (fun _ A _ s H vs Q E hr h=>?_)
 ·obtain ⟨v,u,d,b,ρ,ns,r,rfl,_⟩:=h
  rfl
 obtain ⟨v,u,d,b,ρ,ns,r,rfl,hv,hl,hw,hu,d1,d2,p1,p2,fe,q⟩:=h;refine ⟨_,Qc (ps_asg (pv 2) (pg_tup rfl (Qi (pg_name (i:=3) uR.nd rfl (.inl rfl)) (Qi (pg_name (i:=4) uR.nd rfl (.inl rfl)) pgs_nil))))
  (Qe (Qj (aS Pf (Hm hr) rfl (Qa (aS iT (Hm hr) rfl (Qa (pv 0) (Qa (pv 1) (Qa (pv 3) Qb)))) (Qa (aS iT (Hm hr) rfl (Qa (pv 0) (Qa (pv 1) (Qa (pv 4) Qb)))) Qb))))),?_⟩
 cases hu with
 | @tup ad AW _ wD hda =>
 cases hda with
 | cons g1 hda =>
 cases hda with
 | cons g2 hda =>
 cases hda;obtain ⟨h1,h2,h3,h4,h5,h6⟩:=fe;refine ⟨_,Ja,ad,_,Ja,wD,Ja,_,_,Ja,_,_,Ja,Ja,?_⟩;refine ⟨_,Ja,_,Ja,_,Ja,v,_,d,b,ρ,ns,r.1,Ja,hv,hl,hw,g1,d1,h1.w,p1,fun x1 H1 s1 tu=>?_⟩;refine ⟨_,Ja,_,Ja,_,Ja,v,_,d,b,ρ,ns,r.2,Ja,hv.cH s1,hl,hw.cH s1,GA.sb g2 s1,d2,h2.w,p2,fun x2 H2 s2 om=>?_⟩;exact ⟨x1,x2,_,_,Ja,tu.sb s2,om,Yb h3 (by decide),Yb h4 (by decide),Yb h5 (by decide),Yb h6 (by decide),fun x H' s hx=>q x H' ((s1.trans s2).trans s) hx⟩
abbrev YA:List Str:=[ah,bt,ao,cN,bO]
theorem qz:FnScope YA [ah,bt,ao] (defScope HH):=fS
theorem zh8 {ag:Addr} (B:BI mg) (AJ:Got P w K mg base bX [R6] (2) (PX K)) (Az:Got P w K mg base ig [aR,bO] (1) (K9 K)) (Ax:Got P w K mg base bJ [ah,bt,cN] (2*n+6) (IF K ag n)) (F:Fun K cf cf HH f fd):FnOk P w K mg base CX0 (2*n+7) f fd [ah,bt,ao] (Bo K ag (n+1)):=by
 refine F.ok qz (fun vs H Q E h=>?_) (fun _ A _ s H vs Q E hr h=>?_)
 ·obtain ⟨v,u,d,b,ρ,ns,g,rfl,_⟩:=h
  rfl
 obtain ⟨v,u,d,b,ρ,ns,g,rfl,hv,hl,hw,hg,Cn,fe,hp,q⟩:=h;have bF:=bC hr;refine ⟨_,Qe (Qj (aS AJ (Hm hr) rfl (Qa (pe_lc (own:=[(cN,3),(bO,4)]) (g:=(gTup K 2 (gCons (gName 3) (gCons (gName 4) gNil)))) (tt:=tYes) (te:=(tCall (K9 K) [] E0 (tCons (tCall (IF K ag n) [] E0 (tCons (tVar 0) (tCons (tVar 1) (tCons (tVar 3) tNil)))) (tCons (tVar 4) tNil)))) rfl qz.nd (pi_tup (pv 2)) (blkOk_by (N:=YA) (sc:=defScope HH) (by decide +kernel)) (fun _ _ _ _ _=>(pg_tup rfl (Qi (pg_name (i:=3) qz.nd rfl (.inl rfl)) (Qi (pg_name (i:=4) qz.nd rfl (.inl rfl)) pgs_nil)))) (fun _ _ _ _ _=>pts_nil) (fun _ _ _ _ _=>(aS Az (Hm hr) rfl (Qa (aS Ax (Hm hr) rfl (Qa (pv 0) (Qa (pv 1) (Qa (pv 3) Qb)))) (Qa (pv 4) Qb))))) Qb))),?_⟩;obtain ⟨a,xs,rfl,hs,hb⟩:=vX hg;have xl:=hb.length;have lp:=g.aM;have kY:=sizeLine_eq;refine ⟨_,Ja,a,Ja,⟨xs,hs⟩,fun D hD=>?_⟩;refine oU (walk_tup (xs:=xs)) hD (by omega) (fun i us H2=>Bears K H2 Lad.enc us ((g.ps.take i).map fun p:Tr × Int=>Lad.bM (Gr.du b ρ p.1) p.2)) .nil (fun H2 s2=>s2.aH hs) (fun i us H2 H3 s3 h=>h.sb s3 Lad.af) (fun Pv i x Hq H2 us hi s2 y hR hu fin skip=>?_) (fun us H2 s2 bj hR hu=>?_)
 ·obtain ⟨rfl,ey⟩:=y;obtain ⟨p,ep,gz⟩:=hb.get ey;have pm:=Qu ep;obtain ⟨ad,td,ux,rfl,dS,rT,jR,FJ⟩:=rY gz;obtain ⟨⟨f1,f2,f3,f4,f5,f6,f7,f8⟩,f9⟩:=fe.at p pm;have pd:=g.av p pm;have pp:=g.bE p pm;refine ⟨ad,_,Ja,s2.aH dS,Ja,_,_,Ja,_,_,Ja,Ja,Ja,?_⟩;refine ⟨_,Ja,_,Ja,_,Ja,v,.ref td,d,b,ρ,ns,p.1.1,p.1.2,Ja,hv.cH s2,hl,hw.cH s2,fc s2 _ _ (Gr.a6 _) FJ,by omega,⟨f1,f2,f3,f4,f5⟩,f9,by omega,fun x H3 s3 hx=>?_⟩;refine ⟨_,Ja,x,_,p.2,Ja,hx,Yb f6.parts (by decide),f6.num,f7,f8,fun y H4 s4 hy=>fin y H4 (s3.trans s4) ?_⟩;rw [Yg,ep,Yj];exact (hR.sb (s3.trans s4) Lad.af).append (.cons hy .nil)
 ·rw [xl,Yh,<- Gr.jE] at hR;refine ⟨D,us,Gr.rkT b ρ g,Ja,SqL.of bj,hR,fun l hm=>?_,Yb fe.len (by decide),fun x H' s hx=>q x H' (s2.trans s) hx⟩;rw [Gr.jE] at hm;obtain ⟨p,pm,rfl⟩:=Qx hm;exact Yb (Lad.iw _ (fe.at p pm).1.2.2.2.2.2.1.deep) (by decide)
abbrev zir:List Str:=[ah,bt,cN,"kind","held"]
theorem uM:FnScope zir [ah,bt,cN] (defScope Km):=fS
theorem YK {ag:Addr} (B:BI mg) (O4:Got P w K mg base vT [ah,"kind","own","inner"] (5) (ZC K ag)) (iT:Got P w K mg base cf [ah,bt,ao] (2*n+5) (Bo K ag n)) (F:Fun K bJ bJ Km f fd):FnOk P w K mg base CX0 (2*n+6) f fd [ah,bt,cN] (IF K ag n):=by
 refine F.ok uM (fun vs H Q E h=>?_) (fun _ A _ _ H vs Q E hr h=>?_)
 ·obtain ⟨v,t,d,b,ρ,ns,k,g,rfl,_⟩:=h
  rfl
 obtain ⟨v,t,d,b,ρ,ns,k,g,rfl,hv,hl,hw,ht,Cn,⟨kn,kb,BV,fk,fg⟩,fe,hp,q⟩:=h;refine ⟨_,Qc (ps_asg (pv 2) (pg_tup rfl (Qi (pg_name (i:=3) uM.nd rfl (.inl rfl)) (Qi (pg_name (i:=4) uM.nd rfl (.inl rfl)) pgs_nil))))
  (Qe (Qj (aS O4 (Hm hr) rfl (Qa (pv 0) (Qa (pv 3) (Qa (pe_dget (u1 hr) (pv 1) (pv 3) (fun _ _=>rfl)) (Qa (aS iT (Hm hr) rfl (Qa (pv 0) (Qa (pv 1) (Qa (pv 4) Qb)))) Qb))))))),?_⟩
 obtain ⟨a,u,rfl,hs,jR⟩:=SJ ht;obtain ⟨ux,Mi,zG⟩:=hw.val kn;refine ⟨_,Ja,a,_,Ja,hs,Ja,_,_,Ja,_,_,Ja,Ja,?_⟩;refine ⟨_,Ja,_,Ja,_,Ja,_,Ja,d,ux,Ja,Mi,?_⟩;refine ⟨_,Ja,_,Ja,_,Ja,v,u,d,b,ρ,ns,g,Ja,hv,hl,hw,jR,Cn,fe,hp,fun x H1 s1 hx=>?_⟩;exact ⟨v,ux,x,b,k,ρ k,Gr.rk b ρ g,Ja,hv.cH s1,hl,kb,⟨zG.sb s1,BV,fk⟩,⟨hx,fg⟩,fun y H2 s2 hy=>q y H2 (s1.trans s2) hy⟩
abbrev zk0:List Str:=[ah,"kind","own","inner"]
theorem zhh:FnScope zk0 [ah,"kind","own","inner"] (defScope JK):=fS
theorem zhm {ag aq:Addr} (B:BI mg) (HF:z2h P w K mg base ag "spreads" [bf,aN] (4) (QL K ag aq)) (OZ:Got P w K mg base oQ [bq,aF] (3) (Zx K)) (AI:Got P w K mg base gL [bq,aF] (2) (K5 K)) (F:Fun K vT vT JK f fd):FnOk P w K mg base CX0 (5) f fd [ah,"kind","own","inner"] (ZC K ag):=by
 refine F.ok zhh (fun vs H Q E h=>?_) (fun _ A _ _ H vs Q E hr h=>?_)
 ·obtain ⟨v,u,t,b,n,o,l,rfl,_⟩:=h
  rfl
 obtain ⟨v,u,t,b,n,o,l,rfl,hv,hl,hn,⟨hu,vz,fo⟩,⟨ht,fl⟩,q⟩:=h;refine ⟨_,Qc (Qr (Qo (zcs HF (Hm hr) (pv 0) (Qa (pv 1) Qb))) (Qe (Qj (aS OZ (Hm hr) rfl (Qa (pv 2) (Qa (pv 3) Qb))))) pss_nil)
  (Qe (Qj (aS AI (Hm hr) rfl (Qa (pv 2) (Qa (pv 3) Qb))))),?_⟩
 obtain ⟨va,yB,Ln,Lm,rfl,zF⟩:=hv.at;obtain ⟨kd,eg⟩:=Bk.d8 hn;refine ⟨_,Ja,va,yB,_,Ja,zF,Ja,_,Ja,?_⟩;refine ⟨_,b,n,Ja,hv,hl,fun k' e' H1 s1=>?_,fun z=>by rw [eg] at z; cases z⟩;rw [eg] at e';cases e';refine ⟨_,Ja,?_⟩;have vr:b.wide n=kd.w:=Bk.mT eg;cases hk:kd.w with
 | true =>
  refine iteT ⟨_,Ja,_,Ja,?_⟩;cases o with
  | nil=>exact absurd rfl vz
  | cons e m r =>
  refine ⟨u,t,e,m,r,l,Ja,hu.sb s1,ht.sb s1,Yb fo.deep (by decide),Yb fl.deep (by decide),Yb fo.parts (by decide),Yb fl.parts (by decide),fun x H' s2 hx=>q x H' (s1.trans s2) ?_⟩;rw [vr,hk];exact hx
 | false =>
  refine iteF ⟨_,Ja,_,Ja,?_⟩;refine ⟨u,t,o,l,Ja,hu.sb s1,ht.sb s1,Yb fo.deep (by decide),Yb fl.deep (by decide),Yb fo.parts (by decide),Yb fl.parts (by decide),fun x H' s2 hx=>q x H' (s1.trans s2) ?_⟩;rw [vr,hk];exact hx
abbrev zkf:List Str:=[ah,ao,aR,eG]
theorem yO:FnScope zkf [ah,ao,aR] (defScope J8):=fS
theorem zfk {jb ag aq cz:Addr} (B:BI mg) (eR:Own K mg "NoReach" jb) (AG:GotX P w K mg base dq [ah,ao] (72) (S5 K ag aq)) (AH:GotX P w K mg base dW [ah,ao] (72) (Sv K ag aq cz)) (Ay:Got P w K mg base eZ [ah] (47) (Tf K ag aq)) (tX:Got P w K mg base cX [bq,aF] (1) (Bn K)) (iT:Got P w K mg base cf [ah,bt,ao] (45) (Bo K ag 20)) (wN:GotX P w K mg base bA [ah,eG,ao,bP] (91) (IA K ag 20)) (F:Fun K iq iq J8 f fd):FnOk P w K mg base (L2.CX P w) (94) f fd [ah,ao,aR] (QH K ag aq cz jb):=by
 refine F.okX yO (fun vs H Q E h=>?_) (fun _ A _ s H vs Q E hr h=>?_)
 ·obtain ⟨v,z,y,b,g,ns,rfl,_⟩:=h
  rfl
 obtain ⟨v,z,y,b,g,ns,rfl,hv,ok,hz,gd,gp,gn,nl,qK,q⟩:=h;have bF:=bC hr;refine ⟨_,Qc (Kf (pB AG (Hm hr) rfl (takes_of rfl rfl rfl rfl) (Qa (pv 0) (Qa (pv 1) Qb))))
  (Qc (Kf (pB AH (Hm hr) rfl (takes_of rfl rfl rfl rfl) (Qa (pv 0) (Qa (pv 1) Qb))))
  (Qc (ps_set (i:=3) yO.nd rfl (.inl rfl) (aS Ay (Hm hr) rfl (Qa (pv 0) Qb)))
  (Qc (Qr (Qp (Qo (aS tX (Hm hr) rfl (Qa (pv 2) (Qa (aS iT (Hm hr) rfl (Qa (pv 0) (Qa (pv 3) (Qa (pv 1) Qb)))) Qb))))) (Qe (ps_raise rfl (takes_of rfl rfl rfl rfl) (pmk_own PySem.F.excBase_ValueError eR.q eR.gC eR.k (raises_own eR.s eR.t) rfl))) pss_nil)
  (Qe (Qj (pB wN (Hm hr) rfl (takes_of rfl rfl rfl rfl) (Qa (pv 0) (Qa (pv 3) (Qa (pv 1) (Qa (pv 2) Qb)))))))))),?_⟩
 have b8:=ok.len;refine ⟨_,Ja,_,Ja,v,z,b,g,ns,Ja,hv,hz,by omega,gd,gp,gn,nl,fun hn H1 s1=>?_,qK⟩;obtain ⟨qE,q⟩:=q hn;refine ⟨_,Ja,_,Ja,v,z,b,g,Ja,hv.cH s1,ok,hz.sb s1,gd,gp,hn,fun ge H2 s2=>?_,fun n hn d H' s nd hd=>qE n hn d H' (s1.trans s) (s1.kS _ nd) hd⟩;obtain ⟨ρ,t,D,F,B,P0,ow,hR,⟨Cn,RE,go⟩,⟨fe,fg,gb⟩,⟨hy,td,tq⟩,q,qR⟩:=q ge;have mG:=s1.trans s2;refine ⟨_,Ja,v,b,ρ,Ja,hv.cH mG,ok,ow,fun d es H3 s3 nd hw eo=>?_⟩;refine b7 ?_;have fy:=mG.trans s3;have hf:=fe es (fun n hn VP=>(eo.mem n).mpr ⟨hn,VP⟩);refine ⟨_,Ja,_,Ja,_,Ja,_,Ja,v,z,d,b,ρ,es,g,Ja,hv.cH fy,by omega,hw,hz.sb fy,by omega,hf,RE,fun x H4 s4 hx=>?_⟩;have mf:=fy.trans s4;refine ⟨y,x,t,_,Ja,hy.sb mf,hx,by omega,_,Ja,?_⟩;cases hc:t.lt (Gr.rk b ρ g) with
 | false =>
  refine iteT ?_;exact qR hc _ mf
 | true =>
  refine iteF ?_;obtain ⟨to,t1,b1,tp,tx⟩:=tq hc;have G:=zhq ok ow eo hR;refine ⟨_,Ja,_,Ja,_,Ja,_,Ja,v,z,y,d,b,ρ,es,g,t,D,F,B,P0,Ja,hv.cH mf,hw.cH s4,G,hz.sb mf,Cn,hf,⟨fg,⟨RE,Cn⟩,go,gb⟩,⟨hy.sb mf,to,t1,b1,td,tp,tx⟩,hc,fun p H5 pl i r n s5 hp hr hn=>?_⟩;exact q hc p H5 pl i r n (mf.trans s5) hp hr hn
abbrev PR:List Str:=[ah,eG,ao,bP,"ladders",PH,wQ,jT,cP,jc,cN,bO,aR]
theorem dI:FnScope PR [ah,eG,ao,bP] (defScope C5):=fS
theorem zgi {ag:Addr} (B:BI mg) (Ax:Got P w K mg base bJ [ah,bt,cN] (46) (IF K ag 20)) (AJ:Got P w K mg base bX [R6] (2) (PX K)) (Az:Got P w K mg base ig [aR,bO] (1) (K9 K)) (Pc:GotX P w K mg base cS [ah,eG,cN,bP] (2*n+52) (SN K ag n)) (O9:GotX P w K mg base eB [PH,aR,bP] (4) (YO K)) (F:Fun K bA bA C5 f fd):FnOk P w K mg base (L2.CX P w) (2*n+53) f fd [ah,eG,ao,bP] (IA K ag (n+1)):=by
 refine F.okX dI (fun vs H Q E h=>?_) (fun _ A _ _ H vs Q E hr h=>?_)
 ·obtain ⟨v,z,y,d,b,ρ,es,g,t,D,JC,B0,P0,rfl,_⟩:=h
  rfl
 obtain ⟨v,z,y,d,b,ρ,es,g,t,D,JC,B0,P0,rfl,hv,hw,G,hz,Cn,fe,⟨fg,⟨gp,WJ⟩,go,gb⟩,⟨hy,to,t1,b1,td,tp,tx⟩,cZ,q⟩:=h;have bF:=bC hr;refine ⟨_,Qc (ps_setLc (i:=4) (own:=[(cN,10),(bO,11)]) (g:=(gTup K 2 (gCons (gName 10) (gCons (gName 11) gNil)))) (tt:=tYes) (te:=(tCall (IF K ag 20) [] E0 (tCons (tVar 0) (tCons (tVar 1) (tCons (tVar 10) tNil))))) rfl dI.nd rfl rfl (sw_true rfl rfl rfl (by decide +kernel)) (pi_tup (pv 2)) (blkOk_by (N:=PR) (sc:=defScope C5) (by decide +kernel)) (fun _ _ _ _ _=>(pg_tup rfl (Qi (pg_name (i:=10) dI.nd rfl (.inl rfl)) (Qi (pg_name (i:=11) dI.nd rfl (.inl rfl)) pgs_nil)))) (fun _ _ _ _ _=>pts_nil) (fun _ _ _ _ _=>(aS Ax (Hm hr) rfl (Qa (pv 0) (Qa (pv 1) (Qa (pv 10) Qb))))))
  (Qc (ps_set (i:=5) dI.nd rfl (.inl rfl) (aS AJ (Hm hr) rfl (Qa (pe_lc (own:=[(aR,12),(cN,10),(bO,11)]) (g:=(gTup K 2 (gCons (gName 12) (gCons (gTup K 2 (gCons (gName 10) (gCons (gName 11) gNil))) gNil)))) (tt:=tYes) (te:=(tCall (K9 K) [] E0 (tCons (tVar 12) (tCons (tVar 11) tNil)))) rfl dI.nd (zef rfl B.zip (Qa (pv 4) (Qa (pv 2) Qb))) (blkOk_by (N:=PR) (sc:=defScope C5) (by decide +kernel)) (fun _ _ _ _ _=>(pg_tup rfl (Qi (pg_name (i:=12) dI.nd rfl (.inl rfl)) (Qi (pg_tup rfl (Qi (pg_name (i:=10) dI.nd rfl (.inl rfl)) (Qi (pg_name (i:=11) dI.nd rfl (.inl rfl)) pgs_nil))) pgs_nil)))) (fun _ _ _ _ _=>pts_nil) (fun _ _ _ _ _=>(aS Az (Hm hr) rfl (Qa (pv 12) (Qa (pv 11) Qb))))) Qb)))
  (Qc (ps_set (i:=6) dI.nd rfl (.inl rfl) (Kn Ki PySem.F.slot_list_index PySem.F.type_list_index (Z8 (by show A.units+3+196 < cLine; omega)) (pe_lc (own:=[(aR,12)]) (g:=(gName 12)) (tt:=tYes) (te:=(tOp (rIxT K) (tOp (rIxT K) (tVar 12) (tUn (rU fun i=>.int (-i)) (tC (.int 1)))) (tC (.int 0)))) rfl dI.nd (pi_list (pv 4)) (blkOk_by (N:=PR) (sc:=defScope C5) (by decide +kernel)) (fun _ _ _ _ _=>(pg_name (i:=12) dI.nd rfl (.inl rfl))) (fun _ _ _ _ _=>pts_nil) (fun _ _ _ _ _=>(Qm Ql (Qm Ql (pv 12) (pe_un un_neg Qg) (fun _ _=>rfl)) Qg (fun _ _=>rfl)))) (Qa (Qm Ql (Qm Ql (pv 5) (pe_un un_neg Qg) (fun _ _=>rfl)) Qg (fun _ _=>rfl)) Qb)))
  (Qc (ps_asg (pB Pc (Hm hr) rfl (takes_of rfl rfl rfl rfl) (Qa (pv 0) (Qa (pv 1) (Qa (Qm Ql (Qm Ql (pv 2) (pv 6) (fun _ _=>rfl)) Qg (fun _ _=>rfl)) (Qa (pB O9 (Hm hr) rfl (takes_of rfl rfl rfl rfl) (Qa (pv 5) (Qa (Qm ix_list (pv 4) (pv 6) (fun _ _=>rfl)) (Qa (pv 3) Qb)))) Qb))))) (pg_tup rfl (Qi (pg_name (i:=7) dI.nd rfl (.inl rfl)) (Qi (pg_name (i:=8) dI.nd rfl (.inl rfl)) (Qi (pg_name (i:=9) dI.nd rfl (.inl rfl)) pgs_nil)))))
  (Qe (Qj (Ka (Qa (pe_op yc (Ka (Qa (pv 6) Qb)) (pv 7)) (Qa (pv 8) (Qa (pv 9) Qb))))))))),?_⟩
 have kY:=sizeLine_eq;have b8:=G.ok.len;have rt:Lad.R t:=⟨D,t1,to⟩;have rG:=fe.named;have mh:=Gr.my (b:=b) G.toGoods go rG;have Js:g ≠ .nil:=fun z=>by
  rw [z,Gr.lF,Lad.cL] at cZ; cases cZ
 have IJ:=Gr.sP (b:=b) G.toGoods go rG Js;obtain ⟨a,xs,rfl,hs,hb⟩:=vX hz;have xl:=hb.length;have lp:=g.aM;refine ⟨_,Ja,a,Ja,⟨xs,hs⟩,fun D1 nD1=>?_⟩;refine oU (walk_tup (xs:=xs)) nD1 (by omega) (fun i us H2=>Bears K H2 Lad.enc us ((g.ps.take i).map fun p:Tr × Int=>Gr.du b ρ p.1)) .nil (fun H2 s2=>s2.aH hs) (fun i us H2 H3 s3 h=>h.sb s3 Lad.af) (fun Pv i x Hq H2 us hi s2 y hR hu fin skip=>?_) (fun us H2 s2 bj hR hu=>?_)
 ·obtain ⟨rfl,ey⟩:=y;obtain ⟨p,ep,gz⟩:=hb.get ey;have pm:=Qu ep;obtain ⟨ad,QT,ux,rfl,dS,rT,jR,FJ⟩:=rY gz;obtain ⟨⟨f1,f2,f3,f4,f5,f6,f7,f8⟩,f9⟩:=fe.at p pm;have pd:=g.av p pm;have pp:=g.bE p pm;refine ⟨ad,_,Ja,s2.aH dS,Ja,_,_,Ja,_,_,Ja,Ja,Ja,?_⟩;refine ⟨_,Ja,_,Ja,_,Ja,v,.ref QT,d,b,ρ,es,p.1.1,p.1.2,Ja,hv.cH s2,by omega,hw.cH s2,fc s2 _ _ (Gr.a6 _) FJ,by omega,⟨f1,f2,f3,f4,f5⟩,f9,by omega,fun x H3 s3 hx=>fin x H3 s3 ?_⟩;rw [Yg,ep,Yj];exact (hR.sb s3 Lad.af).append (.cons hx .nil)
 rw [xl,Yh] at hR;have ul:=hR.length;rw [Ye] at ul;refine b7 ?_;refine ⟨_,Ja,_,Ja,D1,a,us,xs,Ja,SqL.of bj,s2.aH hs,fun D3 nD3=>?_⟩;refine oU (zc0 (xs:=us) (ys:=xs) (n:=g.ps.length) (by omega)) nD3 (by omega) (fun i ws H3=>Bears K H3 Lad.enc ws ((g.ps.take i).map fun p:Tr × Int=>Lad.bM (Gr.du b ρ p.1) p.2)) .nil (fun H3 s3=>⟨s3.fG aL (SqL.of bj),(s2.trans s3).aH hs⟩) (fun i us H2 H3 s3 h=>h.sb s3 Lad.af) (fun Pv i x Hq H3 ws hi s3 y RL Vb fin skip=>?_) (fun ws H3 s3 b0 RL Vb=>?_)
 ·obtain ⟨T,x1,y1,rfl,hT,rfl,ex,ey⟩:=y;obtain ⟨p,ep,gz⟩:=hb.get ey;obtain ⟨l',el,My⟩:=hR.get ex;rw [List.getElem?_map,ep] at el;cases el;have pm:=Qu ep;have xq:=Jb hT (.tup [x1,y1]);obtain ⟨ad,QT,ux,rfl,dS,rT,jR,FJ⟩:=rY gz;obtain ⟨⟨f1,f2,f3,f4,f5,f6,f7,f8⟩,f9⟩:=fe.at p pm;refine ⟨T,_,Ja,SqT.of Qt,Ja,_,_,Ja,_,_,Ja,ad,_,Ja,(s2.trans (s3.trans xq)).aH dS,Ja,_,_,Ja,_,_,Ja,Ja,Ja,Ja,?_⟩;have s33:=s3.trans xq;refine ⟨_,Ja,_,Ja,x1,_,p.2,Ja,(show LA K H2 x1 (Gr.du b ρ p.1) from My).sb s33,f6.parts,f6.num,f7,f8,fun y4 H4 s4 hy4=>fin y4 H4 (xq.trans s4) ?_⟩;rw [Yg,ep,Yj];exact (RL.sb (xq.trans s4) Lad.af).append (.cons hy4 .nil)
 rw [List.take_of_length_le (Yc _),<- Gr.jE] at RL;have fy:=s2.trans s3;refine nJ ?_;refine ⟨D3,ws,Gr.rkT b ρ g,Ja,SqL.of b0,RL,fun l hm=>?_,fe.len,fun wv H4 s4 hwv=>?_⟩
 ·rw [Gr.jE] at hm;obtain ⟨p,pm,rfl⟩:=Qx hm;exact Yb (Lad.iw _ (fe.at p pm).1.2.2.2.2.2.1.deep) (by decide)
 refine b7 ?_;have mf:=fy.trans s4;have i6:H4 D1=some (.lst us):=(s3.trans s4).keep _ _ bj aL;have I0:=hR.sb (s3.trans s4) Lad.af;refine ⟨_,Ja,D1,Ja,⟨us,SqL.of i6⟩,fun D5 nD5=>?_⟩;refine Zo (walk_list (xs:=us)) [] nD5 (by simp) (by omega) (fun i Tt H5=>Bears K H5 Lad.enc Tt ((g.ps.take i).map fun p:Tr × Int=>Lad.lst (Gr.du b ρ p.1))) .nil (fun H5 s5=>s5.fG aL (SqL.of i6)) (fun i us H2 H3 s3 h=>h.sb s3 Lad.af) (fun Pv i x Hq H5 Tt hi s5 y mK Ml _ fin skip=>?_) (fun Tt H5 s5 d7 mK Ml=>?_)
 ·obtain ⟨rfl,ey⟩:=y;obtain ⟨l',el,My⟩:=I0.get ey;rw [List.getElem?_map] at el;obtain ⟨p,ep,rfl⟩:=Kr el;have pm:=Qu ep;obtain ⟨n1,n2⟩:=Gr.aJ.mp rG p pm;have o2:=(Gr.cj go pm).2.1;obtain ⟨qs,pq,eq⟩:=Lad.snoc_of (Gr.nj (b:=b) G.toGoods n1 o2 n2);obtain ⟨al,xl5,rfl,Ve,kR⟩:=je (show LA K H4 x (Gr.du b ρ p.1) from My);rw [eq] at kR;obtain ⟨us7,u7,rfl,Cz,U9⟩:=kR.snoc;obtain ⟨c7,QR,rfl,FO,F8⟩:=jW U9;refine ⟨rfl,_,Ja,_,Ja,al,_,_,_,Ja,Ja,s5.aH Ve,IC,c7,_,_,_,Ja,Ja,s5.aH FO,atI_nat (j:=0) rfl,fin _ _ SB.refl ?_⟩;rw [Yg,ep,Yj];refine mK.append (.cons ?_ .nil);show Dp K H5 QR (Lad.lst (Gr.du b ρ p.1)).enc;rw [show Lad.lst (Gr.du b ρ p.1)=pq.1 from Lad.jF eq];exact F8.sb s5
 have ul5:us.length=g.ps.length:=ul;rw [ul5,Yh] at mK;have vA:Lad.lst (Gr.rk b ρ g) ∈ g.ps.map fun p:Tr × Int=>Lad.lst (Gr.du b ρ p.1):=by
  obtain ⟨p,hp,e⟩:=Gr.zt (b:=b) G.toGoods go rG Js;exact Ku ⟨p,hp,e⟩
 obtain ⟨j,hj,GC⟩:=S4 vA;have ME:=hj;rw [List.getElem?_map] at ME;obtain ⟨p,ep,Hn⟩:=Kr ME;have pm:=Qu ep;have Xf:=K6 mK;have NJ:∀ i:Nat,((g.ps.map fun p:Tr × Int=>Lad.lst (Gr.du b ρ p.1)).map Lad.enc)[i]?=((g.ps.map fun p:Tr × Int=>Lad.lst (Gr.du b ρ p.1))[i]?).map Lad.enc:=fun i=>List.getElem?_map ..;obtain ⟨qs,pq,eq⟩:=Lad.snoc_of IJ;obtain ⟨al,xl5,rfl,Ve,kR⟩:=je (show LA K H4 wv (Gr.rk b ρ g) from hwv);rw [eq] at kR;obtain ⟨us7,u7,rfl,Cz,U9⟩:=kR.snoc;obtain ⟨c7,QR,rfl,FO,F8⟩:=jW U9;have Vy:LA K H5 QR (Lad.lst (Gr.rk b ρ g)):=by
  rw [Lad.jF eq]; exact LA.sb F8 s5
 have wd:=fg.deep;have ld:=Lad.sX (Gr.rk b ρ g);refine ⟨.inl ⟨rfl,_,SqL.of d7⟩,_,Ja,_,Ja,al,_,_,_,Ja,Ja,s5.aH Ve,IC,c7,_,_,_,Ja,Ja,s5.aH FO,atI_nat (j:=0) rfl,D5,QR,(Lad.lst (Gr.rk b ρ g)).enc,_,j,(Lad.lst (Gr.rk b ρ g)).enc,Ja,Ja,.lst (SqL.of d7) Xf,Vy,?_,Wd.of (Lad.aA (by omega)),by rw [NJ,hj]; rfl,by rw [Lad.a5]; exact Ya rfl,fun m z' hm hz=>?_,?_⟩
 ·refine Lad.nW _ fun l hl=>?_;obtain ⟨q',qm,rfl⟩:=Qx hl;have h1:=(fe.at q' qm).1.2.2.2.2.2.1.deep;have h2:=Lad.sX (Gr.du b ρ q'.1);omega
 ·rw [NJ] at hz;obtain ⟨l',Xa,rfl⟩:=Kr hz;rw [Lad.a5];exact Qz fun z=>GC m hm (by rw [Xa,z])
 refine b7 ?_;have fB:=mf.trans s5;have jl:j < us.length:=by
  rw [ul5];exact (Kq ep).1
 obtain ⟨uj,euj⟩:∃ uj,us[j]?=some uj:=⟨_,Kp jl⟩;obtain ⟨l',el,My⟩:=(I0.sb s5 Lad.af).get euj;rw [List.getElem?_map,ep] at el;cases el;obtain ⟨xj,OD⟩:∃ xj,xs[j]?=some xj:=⟨_,Kp (by omega)⟩;obtain ⟨p',Hk,gz⟩:=hb.get OD;rw [ep] at Hk;cases Hk;obtain ⟨ad,QT,ux,rfl,dS,rT,jR,FJ⟩:=rY gz;obtain ⟨⟨f1,f2,f3,f4,f5,f6,f7,f8⟩,f9⟩:=fe.at p pm;obtain ⟨n1,n2⟩:=Gr.aJ.mp rG p pm;obtain ⟨nk,o2,_⟩:=Gr.cj go pm;have pd:=g.av p pm;have pp:=g.bE p pm;obtain ⟨⟨bp,bo⟩,bd⟩:=gb.at pm;have Rk:=Gr.nj (b:=b) G.toGoods n1 o2 n2;have rl:=Gr.jq (b:=b) G.toGoods n1 o2 n2;have U3:LA K H5 (.ref al) (Gr.rk b ρ g):=LA.sb hwv s5;refine ⟨_,Ja,_,Ja,_,Ja,_,Ja,a,xs,(j:Int),_,Ja,Ja,fB.aH hs,atI_nat OD,ad,_,_,_,Ja,Ja,fB.aH dS,atI_nat (j:=0) rfl,?_⟩;refine ⟨_,Ja,_,Ja,_,Ja,D1,us,(j:Int),uj,Ja,Ja,SqL.of (s5.keep _ _ i6 aL),atI_nat euj,?_⟩;refine ⟨_,Ja,.ref al,uj,y,Gr.rk b ρ g,Gr.du b ρ p.1,t,Ja,⟨U3,My,hy.sb fB⟩,⟨IJ,Rk⟩,⟨fg.deep,f6.deep,td⟩,⟨fg.parts,f6.parts,by omega⟩,fun gx H6 s6 RC=>?_⟩;refine nJ ?_;have me:=fB.trans s6;obtain ⟨A0,hA0,NF⟩:=mh;have mh:=Gr.my (b:=b) G.toGoods go rG;have m1:=Nat.mul_le_mul_left P0 (show p.1.2.deep+1<=g.deep by omega);rw [Nat.mul_add] at m1;have m2:B0*((p.1.2.deep:Nat):Int)+B0<=B0*((g.deep:Nat):Int):=by
  have:=Int.mul_le_mul_of_nonneg_left (show ((p.1.2.deep:Nat):Int)+1<=((g.deep:Nat):Int) by omega) (show 0<=B0 by omega);rw [Int.mul_add] at this;omega
 have m3:=Lad.vG (Gr.rk b ρ g) (Gr.du b ρ p.1) t;refine ⟨v,.ref QT,gx,d,b,ρ,es,p.1.1,p.1.2,Lad.gone (Gr.rk b ρ g) (Gr.du b ρ p.1) t,B0+D,JC,B0,P0,Ja,hv.cH me,hw.cH me,G,fc me _ _ (Gr.a6 _) FJ,by omega,⟨f1,f4,f5,nk⟩,f9,⟨⟨by omega,by omega⟩,o2,bd⟩,⟨RC,Lad.gone_ok NF hA0 bo b1 to t1,by omega,b1,Lad.xU f6.deep td,by omega,by omega⟩,Lad.CK mh IJ rl Rk rt Hn.symm cZ,fun p7 H7 pl i7 r7 n7 s7 oM hr7 hn7=>?_⟩;obtain ⟨ap,hq1,wF⟩:=oM;refine ⟨p7,_,Ja,hq1,Ja,_,_,Ja,_,_,Ja,_,_,Ja,Ja,?_⟩;refine ⟨_,Ja,Z1,fun c1 um=>?_⟩;have s8:=Jb um (.tup [.int (j:Nat)]);have pdl:pl.length<=100:=by
  obtain ⟨_,k0,kd0,hk0,_⟩:=hr7;rcases hk0 with ⟨h1,_⟩ | ⟨_,h1⟩
  ·rw [h1]; exact Nat.zero_le _
  ·have:pl.length<=p.1.2.deep:=Gr.iN h1;omega
 refine ⟨_,Ja,c1,ap,_,_,Ja,Ja,SqT.of Qt,s8.aH wF,by rw [Yi,Ye]; omega,fun c2 H8 s9 kQ=>?_⟩;refine ⟨_,Ja,_,Ja,Z3,fun c3 uk=>?_⟩;have mF:=Jb uk (.tup [.ref c2,.int (i7:Nat),.int n7]);refine q c3 _ (j::pl) i7 r7 n7 ((me.trans s7).trans ((s8.trans s9).trans mF)) ⟨c2,SqT.of Qt,mF.aH kQ⟩ (Gr.sT G.toGoods go rG ep Hn rt cZ hr7) (by omega)
abbrev zin:List Str:=[PH,aR,bP]
theorem zgk:FnScope zin [PH,aR,bP] (defScope KG):=fS
theorem zgb (B:BI mg) (AI:Got P w K mg base gL [bq,aF] (2) (K5 K)) (wM:GotX P w K mg base bN [bq,aF] (3) (Sb K)) (EA:Got P w K mg base kJ [aR] (1) (z7z K)) (F:Fun K eB eB KG f fd):FnOk P w K mg base (L2.CX P w) (4) f fd [PH,aR,bP] (YO K):=by
 refine F.okX zgk (fun vs H Q E h=>?_) (fun _ A _ s H vs Q E hr h=>?_)
 ·obtain ⟨v,u,y,w,l,g,rfl,_⟩:=h
  rfl
 obtain ⟨v,u,y,w,l,g,rfl,⟨hv,hu,hy⟩,⟨hw,hl⟩,⟨d1,d2,d3⟩,⟨p1,p2,p3⟩,q⟩:=h;have bF:=bC hr;refine ⟨_,Qe (Qj (aS AI (Hm hr) rfl (Qa (aS EA (Hm hr) rfl (Qa (pv 1) Qb)) (Qa (pB wM (Hm hr) rfl (takes_of rfl rfl rfl rfl) (Qa (aS EA (Hm hr) rfl (Qa (pv 0) Qb)) (Qa (pv 2) Qb))) Qb)))),?_⟩;refine ⟨_,Ja,u,l,Ja,hu,hl,p2,fun x1 H1 s1 h1=>?_⟩;refine ⟨_,Ja,v,w,Ja,hv.sb s1,hw,p1,fun x2 H2 s2 h2=>?_⟩;have q1:=Lad.lI w;have q2:=Lad.lI l;have q3:=Lad.iZ (Lad.low w) g;have e1:=Lad.nQ d1;have e2:=Lad.nQ d2;have e3:=Lad.j4 (Lad.low w) g;refine ⟨_,Ja,x2,y,Lad.low w,g,Ja,h2,hy.sb (s1.trans s2),e1,d3,by omega,p3,fun x3 H3 s3 h3=>?_⟩;exact ⟨x1,x3,Lad.low l,Lad.jf (Lad.low w) g,Ja,h1.sb (s2.trans s3),h3,by omega,by omega,by omega,by omega,fun x H' s hx=>q x H' ((s1.trans s2).trans (s3.trans s)) hx⟩
abbrev zki:List Str:=[aR,"exponent",bO]
theorem uP:FnScope zki [aR] (defScope JG):=fS
theorem zff (B:BI mg) (F:Fun K kJ kJ JG f fd):FnOk P w K mg base CX0 (1) f fd [aR] (z7z K):=by
 refine F.ok uP (fun vs H Q E h=>?_) (fun _ A _ _ H vs Q E hr h=>?_)
 ·obtain ⟨v,l,rfl,_⟩:=h
  rfl
 obtain ⟨v,l,rfl,hv,vz,hp,q⟩:=h;have bF:=bC hr;refine ⟨_,Qc (ps_asg (Qm Ql (pv 0) (pe_un un_neg Qg) (fun _ _=>rfl)) (pg_tup rfl (Qi (pg_name (i:=1) uP.nd rfl (.inl rfl)) (Qi (pg_name (i:=2) uP.nd rfl (.inl rfl)) pgs_nil))))
  (Qc (Qr (pt_cmpR op_eq (pv 2) Qg (nomark _)) (Qe (Qj (pe_slice yq (pv 0) po_none (po_some (pe_un un_neg Qg))))) pss_nil)
  (Qe (Qj (pe_op yc (pe_slice yq (pv 0) po_none (po_some (pe_un un_neg Qg))) (Ka (Qa (Ka (Qa (pv 1) (Qa (pe_op op_sub (pv 2) Qg) Qb))) Qb)))))),?_⟩
 obtain ⟨qs,p,e⟩:=Lad.snoc_of vz;obtain ⟨a,xs,rfl,hs,hb⟩:=je hv;rw [e] at hb;obtain ⟨us,u,rfl,zS,hu⟩:=hb.snoc;obtain ⟨c,ue,rfl,jQ,hle⟩:=jW hu;refine ⟨_,Ja,_,Ja,a,_,_,_,Ja,Ja,hs,IC,c,_,Ja,jQ,Ja,_,_,Ja,_,_,Ja,Ja,?_⟩;have ed:decide (V.int p.2=V.int 1)=decide (p.2=1):=by simp
 have ql:=Lad.nP e;have ul:=zS.length;have lp:=l.aM;rw [<- Lad.a7,e,Yf] at lp;have ci:cutV (us++[V.ref c]) none (some (-1))=us:=by rw [zam _ (by simp)]; simp
 refine ⟨_,Ja,Ja,_,Ja,?_⟩;rw [ed];by_cases hm:p.2=1
 ·rw [Ya hm];rw [if_pos hm] at ql;refine iteT ⟨_,Ja,_,Ja,-1,Ja,a,_,Ja,hs,fun c1 H1 s1 hc=>?_⟩;rw [ci] at hc;refine q _ _ s1 ?_;rw [ql];exact uD hc (zS.sb s1 Lad.ae)
 ·rw [Qz hm];rw [if_neg hm] at ql;refine iteF ⟨_,Ja,_,Ja,-1,Ja,a,_,Ja,hs,fun c1 H1 s1 hc=>?_⟩;rw [ci] at hc;refine ⟨_,Ja,_,Ja,_,_,Ja,Ja,dU,fun t1 FN=>?_⟩;have s2:=Jb FN (.tup [ue,.int (p.2-1)]);refine ⟨Z1,fun t2 FL=>?_⟩;have s3:=Jb FL (.tup [.ref t1]);refine ⟨c1,t2,_,_,Ja,Ja,(s2.trans s3).aH hc,SqT.of Qt,by rw [Yi,ul]; simp only [Yi] at lp; omega,fun c3 H9 s9 uk=>?_⟩;have E7:=s1.trans ((s2.trans s3).trans s9);refine q _ _ E7 ?_;rw [ql];refine uD uk ?_;refine Bears.append (zS.sb E7 Lad.ae) (.cons ?_ .nil);exact Dp.tup ((s3.trans s9).aH (SqT.of Qt)) (.cons (hle.sb E7) (.cons (.int _) .nil))
abbrev zkc:List Str:=[bq,aF]
theorem zhn:FnScope zkc [bq,aF] (defScope Kh):=fS
theorem zg2 {AO:Addr} (B:BI mg) (tX:Got P w K mg base cX [bq,aF] (1) (Bn K)) (O0:GotX P w K mg base EF [bq,aF] (2) (YI K AO)) (F:Fun K bN bN Kh f fd):FnOk P w K mg base (L2.CX P w) (3) f fd [bq,aF] (Sb K):=by
 refine F.okX zhn (fun vs H Q E h=>?_) (fun _ A _ s H vs Q E hr h=>?_)
 ·obtain ⟨v,u,l,k,rfl,_⟩:=h
  rfl
 obtain ⟨v,u,l,k,rfl,hv,hu,hd,hd2,hp,eY,q⟩:=h;have bF:=bC hr;refine ⟨_,Qc (Qr (Qo (aS tX (Hm hr) rfl (Qa (pv 1) (Qa (pv 0) Qb)))) (Qe (Qj (Ka Qb))) pss_nil)
  (Qe (Qj (pB O0 (Hm hr) rfl (takes_of rfl rfl rfl rfl) (Qa (pv 0) (Qa (pv 1) Qb))))),?_⟩
 refine ⟨_,Ja,_,Ja,u,v,k,l,Ja,hu,hv,by omega,_,Ja,?_⟩;unfold Lad.jf at q;cases hc:k.lt l with
 | true =>
  refine iteT ?_;rw [if_pos hc] at q;exact ⟨Z0,fun c hc=>q _ _ (SB.new hc _) (uf (SqT.of Qt))⟩
 | false =>
  refine iteF ?_;rw [if_neg (by rw [hc]; decide)] at q;exact ⟨_,Ja,_,Ja,v,u,l,k,Ja,hv,hu,hd,hd2,hp,eY,fun _ x H' s hx=>q x H' s hx,fun z=>by rw [hc] at z; cases z⟩
abbrev zjo:List Str:=[ah,eG,cN,bP,"kind","held",cP,jc,"exponent",jT]
theorem gP:FnScope zjo [ah,eG,cN,bP] (defScope JO):=fS
theorem zfa {ag aq:Addr} (B:BI mg) (Pb:GotX P w K mg base dE [ah,eG,"kind",bP] (50) (Zh K ag)) (HF:z2h P w K mg base ag "spreads" [bf,aN] (4) (QL K ag aq)) (wN:GotX P w K mg base bA [ah,eG,ao,bP] (2*n+51) (IA K ag n)) (wM:GotX P w K mg base bN [bq,aF] (3) (Sb K)) (Pa:Got P w K mg base cJ [bP] (1) (z7q K)) (F:Fun K cS cS JO f fd):FnOk P w K mg base (L2.CX P w) (2*n+52) f fd [ah,eG,cN,bP] (SN K ag n):=by
 refine F.okX gP (fun vs H Q E h=>?_) (fun _ A _ _ H vs Q E hr h=>?_)
 ·obtain ⟨v,z,y,d,b,ρ,es,k,g,t,D,JC,B0,P0,rfl,_⟩:=h
  rfl
 obtain ⟨v,z,y,d,b,ρ,es,k,g,t,D,JC,B0,P0,rfl,hv,hw,G,hz,Cn,⟨kn,fk,fg,nk⟩,fe,⟨⟨gp,WJ⟩,go,gb⟩,⟨hy,to,t1,b1,td,tp,tx⟩,cZ,q⟩:=h;have bF:=bC hr;refine ⟨_,Qc (ps_asg (pv 2) (pg_tup rfl (Qi (pg_name (i:=4) gP.nd rfl (.inl rfl)) (Qi (pg_name (i:=5) gP.nd rfl (.inl rfl)) pgs_nil))))
  (Qc (Qr (Qp (pt_truth (pv 5) (by intro _; rfl))) (Qc (ps_asg (pB Pb (Hm hr) rfl (takes_of rfl rfl rfl rfl) (Qa (pv 0) (Qa (pv 1) (Qa (pv 4) (Qa (pv 3) Qb))))) (pg_tup rfl (Qi (pg_name (i:=6) gP.nd rfl (.inl rfl)) (Qi (pg_name (i:=7) gP.nd rfl (.inl rfl)) pgs_nil))))
  (Qe (Qj (Ka (Qa (Ka Qb) (Qa (pv 6) (Qa (pv 7) Qb))))))) pss_nil)
  (Qc (Qr (Qp (Qo (SU HF (Hm hr) (takes_of rfl rfl rfl rfl) (pv 0) (Qa (pv 4) Qb)))) (Qe (Qj (pB wN (Hm hr) rfl (takes_of rfl rfl rfl rfl) (Qa (pv 0) (Qa (pv 1) (Qa (pv 5) (Qa (pB wM (Hm hr) rfl (takes_of rfl rfl rfl rfl) (Qa (pe_dget (u1 hr) (pv 1) (pv 4) (fun _ _=>rfl)) (Qa (pv 3) Qb))) Qb))))))) pss_nil)
  (Qc (ps_set (i:=8) gP.nd rfl (.inl rfl) (pe_ifExp (pt_truth (pv 3) (by intro _; rfl)) (Qm Ql (Qm Ql (pv 3) Qg (fun _ _=>rfl)) Qg (fun _ _=>rfl)) (Ka Qb)))
  (Qc (ps_asg (pB wN (Hm hr) rfl (takes_of rfl rfl rfl rfl) (Qa (pv 0) (Qa (pv 1) (Qa (pv 5) (Qa (pB wM (Hm hr) rfl (takes_of rfl rfl rfl rfl) (Qa (Qm Ql (Qm Ql (pe_dget (u1 hr) (pv 1) (pv 4) (fun _ _=>rfl)) Qg (fun _ _=>rfl)) Qg (fun _ _=>rfl)) (Qa (pv 8) Qb))) Qb))))) (pg_tup rfl (Qi (pg_name (i:=9) gP.nd rfl (.inl rfl)) (Qi (pg_name (i:=6) gP.nd rfl (.inl rfl)) (Qi (pg_name (i:=7) gP.nd rfl (.inl rfl)) pgs_nil)))))
  (Qe (Qj (Ka (Qa (pv 9) (Qa (pv 6) (Qa (Qs (call_max2 rfl) rfl B.max boot_max (Qa (pv 7) (Qa (aS Pa (Hm hr) rfl (Qa (pv 3) Qb)) Qb))) Qb)))))))))),?_⟩
 have b8:=G.ok.len;have kb:=G.sub k kn;obtain ⟨kd,eg⟩:=Bk.d8 kb;obtain ⟨ro,IP⟩:=G.rt k kn;have rt:Lad.R t:=⟨D,t1,to⟩;have rG:=fe.named;have rh:=Gr.my (b:=b) G.toGoods go rG;have Bg:0<=B0*(g.deep:Int):=Int.mul_nonneg (by omega) (by omega);have Pg:0<=P0*g.deep:=Nat.zero_le _;obtain ⟨a,u,rfl,hs,jR⟩:=SJ hz;obtain ⟨a',II,rfl,wD,DS⟩:=vX jR;obtain ⟨ux,Mi,zG⟩:=hw.val kn;refine ⟨_,Ja,a,_,Ja,hs,Ja,_,_,Ja,_,_,Ja,Ja,?_⟩;refine ⟨_,Ja,_,.inr (.inl ⟨II,wD,Ja⟩),?_⟩;cases g with
 | nil =>
  cases DS;refine iteT ?_;rw [Gr.sN G.toGoods kn] at cZ;refine ⟨_,Ja,_,Ja,_,Ja,_,Ja,v,y,d,k,b,ρ,es,t,D,Ja,hv,hw,G,kn,⟨hy,to,t1,td,by omega⟩,fk.deep,cZ,fun p H1 qT i r n s1 g9 eg' er n0 nD hr=>?_⟩;refine ⟨p,_,Ja,g9,Ja,_,_,Ja,_,_,Ja,Ja,?_⟩;refine ⟨Z0,fun c0 V1=>?_⟩;have s2:=Jb V1 (.tup []);refine ⟨_,Ja,_,Ja,Z3,fun c3 uk=>?_⟩;have s3:=Jb uk (.tup [.ref c0,.int (i:Nat),.int n]);refine q c3 _ [] i r n (s1.trans (s2.trans s3)) ⟨c0,SqT.of Qt,s3.aH (SqT.of Qt)⟩ (Gr.vc G.toGoods kn eg' er n0 hr) (by show n<=D+B0*((0:Nat):Int); simp; omega)
 | cons gk gh gm gr =>
  have Js:Gr.cons gk gh gm gr ≠ .nil:=by simp
  obtain ⟨y0,yr,rfl⟩:∃ y0 yr,II=y0::yr:=by
   have:=DS.length;cases II with
   | nil=>exact absurd this (by simp [Gr.ps])
   | cons a b=>exact ⟨a,b,Ja⟩
  refine iteF ?_;generalize Gr.cons gk gh gm gr=g at *;have Ro:=Gr.sP (b:=b) G.toGoods go rG Js;obtain ⟨va,yB,Ln,Lm,rfl,zF⟩:=hv.at;refine ⟨_,Ja,va,yB,_,Ja,zF,Ja,_,Ja,?_⟩;refine ⟨_,b,k,Ja,hv,by omega,fun k' e' H1 s1=>?_,fun z=>by rw [eg] at z; cases z⟩;rw [eg] at e';cases e';have vr:b.wide k=kd.w:=Bk.mT eg;refine ⟨_,Ja,?_⟩;cases yi:kd.w with
  | false =>
   rw [yi] at vr;have lO:t.lt (Lad.cI (ρ k) (Gr.rk b ρ g))=true:=by
    have e:Gr.du b ρ (k,g)=dJ (b.wide k) (ρ k) (Gr.rk b ρ g):=rfl;rw [e,vr] at cZ;exact cZ
   refine iteT ?_;have rp:=Lad.iZ (ρ k) t;have rd:=Lad.j4 (ρ k) t;obtain ⟨ux1,U6,U8⟩:=(hw.cH s1).val kn;refine ⟨_,Ja,_,Ja,_,Ja,_,Ja,_,Ja,d,ux1,Ja,U6,?_⟩;refine ⟨_,Ja,ux1,y,ρ k,t,Ja,U8,hy.sb s1,fk.deep,td,fk.parts,by omega,fun x H2 s2 hx=>?_⟩;have jD:=s1.trans s2;refine nJ ?_;refine ⟨.ref va,.ref a',x,d,b,ρ,es,g,Lad.jf (ρ k) t,D,JC,B0,P0,Ja,hv.cH jD,hw.cH jD,G,GA.sb jR jD,Cn,fe,⟨fg,⟨gp,WJ⟩,go,gb⟩,⟨hx,Lad.uZ ro to t1,t1,b1,by omega,by omega,tx⟩,Lad.u6 ro rt rh Ro lO,fun p H3 pl i r n2 s3 hp hr tA=>?_⟩;exact q p H3 pl i r n2 (jD.trans s3) hp (Gr.ny G.toGoods kn nk go rG rt hr (Kw _) (fun _=>rfl) (fun z=>by rw [show b.wide (k,g).1=false from vr] at z; cases z)) tA
  | true =>
   rw [yi] at vr;refine iteF ?_;have lO:t.lt (dJ true (ρ k) (Gr.rk b ρ g))=true:=by
    have e:Gr.du b ρ (k,g)=dJ (b.wide k) (ρ k) (Gr.rk b ρ g):=rfl;rw [e,vr] at cZ;exact cZ
   refine zgm rfl (hy.sb s1) fun ev H2 s2 Cp=>?_;refine b7 ?_;have jD:=s1.trans s2;obtain ⟨ux2,U5,U7⟩:=(hw.cH jD).val kn;cases ho:ρ k with
   | nil=>exact absurd ho IP
   | cons e0 m0 r0 =>
   obtain ⟨au,xu,rfl,hsu,hbu⟩:=je U7;rw [ho,show (Lad.cons e0 m0 r0).ps=(e0,m0)::r0.ps from rfl] at hbu;cases hbu with
   | @cons z0 zr _ _ i0 pT =>
   obtain ⟨c,ue,rfl,jQ,hle⟩:=jW i0;have ro':=ro;rw [ho] at ro' lO;have e1:dJ true (Lad.cons e0 m0 r0) (Gr.rk b ρ g)=.cons (Lad.cI e0 (Gr.rk b ρ g)) 1 .nil:=Lad.gD Ro;rw [e1] at lO;have re:=ro'.exp;have om:=Lad.Gy rt (re.cI rh) (Lad.Hr Ro) lO;have d1:e0.deep < (ρ k).deep:=by rw [ho]; exact Lad.av (.cons e0 m0 r0) (e0,m0) (bw ..)
   have d2:e0.parts < (ρ k).parts:=by rw [ho]; exact Lad.bE (.cons e0 m0 r0) (e0,m0) (bw ..)
   have fkd:=fk.deep;have fkp:=fk.parts;have hd:=Lad.zP t;have hp:=Lad.xR t;have rp:=Lad.iZ e0 (Lad.hde t);have rd:=Lad.j4 e0 (Lad.hde t);refine ⟨_,Ja,_,Ja,_,Ja,_,Ja,_,Ja,d,_,Ja,U5,au,_,_,_,Ja,Ja,hsu,atI_nat (j:=0) rfl,c,_,_,_,Ja,Ja,jQ,atI_nat (j:=0) rfl,?_⟩;refine ⟨_,Ja,ue,ev,e0,Lad.hde t,Ja,hle,Cp,by omega,by omega,by omega,by omega,fun x H3 s3 hx=>?_⟩;have uW:=jD.trans s3;refine nJ ?_;refine ⟨.ref va,.ref a',x,d,b,ρ,es,g,Lad.jf e0 (Lad.hde t),D,JC,B0,P0,Ja,hv.cH uW,hw.cH uW,G,GA.sb jR uW,Cn,fe,⟨fg,⟨gp,WJ⟩,go,gb⟩,⟨hx,Lad.uZ re (Lad.Gx to) t1,t1,b1,by omega,by omega,tx⟩,Lad.u6 re rt.hde rh Ro om,fun p H4 pl i r n2 s4 kN hr tA=>?_⟩;obtain ⟨ap,jh,oN⟩:=kN;refine ⟨p,_,Ja,jh,Ja,_,_,Ja,_,_,Ja,_,_,Ja,Ja,?_⟩;refine ⟨_,Ja,_,Ja,_,Ja,_,Ja,y,t,Ja,hy.sb (uW.trans s4),by omega,_,_,Ja,?_⟩;refine ⟨Z3,fun c3 uk=>?_⟩;have fr:=Lad.G0 to t1;refine q c3 _ pl i r (if Lad.Bl t > n2 then Lad.Bl t else n2) ((uW.trans s4).trans (SB.new uk _)) ⟨ap,SqT.of Qt,(Jb uk _).aH oN⟩ (Gr.ny G.toGoods kn nk go rG rt hr (by split <;> omega) (fun z=>by rw [show b.wide (k,g).1=true from vr] at z; cases z) fun _=>⟨by rw [show ρ (k,g).1=.cons e0 m0 r0 from ho]; rfl,by split <;> omega⟩) (by split <;> omega)
abbrev zim:List Str:=[bP,bO]
theorem yN:FnScope zim [bP] (defScope Kb):=fS
theorem zfv (B:BI mg) (F:Fun K cJ cJ Kb f fd):FnOk P w K mg base CX0 (1) f fd [bP] (z7q K):=by
 refine F.ok yN (fun vs H Q E h=>?_) (fun _ A _ _ H vs Q E hr h=>?_)
 ·obtain ⟨v,l,rfl,_⟩:=h
  rfl
 obtain ⟨v,l,rfl,hv,hp,q⟩:=h;have bF:=bC hr;refine ⟨_,Qc (Qr (Qp (pt_truth (pv 0) (by intro _; rfl))) (Qe (Qj Qg)) pss_nil)
  (Qc (ps_set (i:=1) yN.nd rfl (.inl rfl) (Qm Ql (Qm Ql (pv 0) Qg (fun _ _=>rfl)) Qg (fun _ _=>rfl)))
  (Qe (Qj (pe_ifExp (pt_cmpR op_gt (Qs call_len_seq rfl B.len PySem.boot_len (Qa (pv 0) Qb)) Qg (nomark _)) (pv 1) (pe_op op_sub (pv 1) Qg))))),?_⟩
 obtain ⟨a,xs,rfl,hs,hb⟩:=je hv;refine ⟨_,Ja,_,.inr (.inl ⟨xs,hs,Ja⟩),?_⟩;cases l with
 | nil =>
  cases hb;refine iteT ?_;exact q
 | cons e m r =>
  rw [show (Lad.cons e m r).ps=(e,m)::r.ps from rfl] at hb;cases hb with
  | @cons y0 yr _ _ h0 pT =>
  refine iteF ?_;obtain ⟨c,ue,rfl,jQ,hle⟩:=jW h0;have rl:=pT.length;refine ⟨_,Ja,a,_,_,_,Ja,Ja,hs,atI_nat (j:=0) rfl,c,_,_,_,Ja,Ja,jQ,atI_nat (j:=1) rfl,?_⟩;refine b7 ?_;refine ⟨_,Ja,a,_,Ja,.inr hs,_,_,Ja,Ja,_,Ja,?_⟩;unfold Lad.Bl at q;cases r with
  | nil =>
   cases pT;rw [show decide ((1:Int) < (([V.ref c]:List V).length:Nat))=false from rfl];have q':Q (V.int (m-1)) H:=q;exact iteF ⟨_,Ja,_,_,Ja,Ja,q'⟩
  | cons e2 m2 r2 =>
   have Ug:yr.length=r2.ps.length+1:=rl;rw [show decide ((1:Int) < ((V.ref c::yr).length:Nat))=true from Ya (by rw [Yk]; omega)];have q':Q (V.int m) H:=q;exact iteT ⟨_,Ja,q'⟩
abbrev X6:List Str:=[ah,eG,"kind",bP,"rows",wQ,"once","each",cP]
theorem jA:FnScope X6 [ah,eG,"kind",bP] (defScope HQ):=fS
theorem zfb {ag aq:Addr} (B:BI mg) (Aw:GotX P w K mg base bu [ah,aN] (5) (SR K ag aq)) (AF:Got P w K mg base qh [ah,bt,cP] (46) (KS K ag)) (tX:Got P w K mg base cX [bq,aF] (1) (Bn K)) (iT:Got P w K mg base cf [ah,bt,ao] (45) (Bo K ag 20)) (O2:Got P w K mg base ij [gK,aD] (1) (SQ K)) (F:Fun K dE dE HQ f fd):FnOk P w K mg base (L2.CX P w) (50) f fd [ah,eG,"kind",bP] (Zh K ag):=by
 refine F.okX jA (fun vs H Q E h=>?_) (fun _ A _ _ H vs Q E hr h=>?_)
 ·obtain ⟨v,y,d,k,b,ρ,es,t,D,rfl,_⟩:=h
  rfl
 obtain ⟨v,y,d,k,b,ρ,es,t,D,rfl,hv,hw,G,hk,⟨hy,to,t1,td,tp⟩,kd,cZ,q⟩:=h;have bF:=bC hr;refine ⟨_,Qc (ps_set (i:=4) jA.nd rfl (.inl rfl) (pB Aw (Hm hr) rfl (takes_of rfl rfl rfl rfl) (Qa (pv 0) (Qa (pv 2) Qb))))
  (Qc (ps_set (i:=5) jA.nd rfl (.inl rfl) (Kn Ki PySem.F.slot_list_index PySem.F.type_list_index (Z8 (by show A.units+3+196 < cLine; omega)) (pe_lc (own:=[(cP,8)]) (g:=(gName 8)) (tt:=tYes) (te:=(tCall (KS K ag) [] E0 (tCons (tVar 0) (tCons (tVar 1) (tCons (tVar 8) tNil))))) rfl jA.nd (pi_list (pv 4)) (blkOk_by (N:=X6) (sc:=defScope HQ) (by decide +kernel)) (fun _ _ _ _ _=>(pg_name (i:=8) jA.nd rfl (.inl rfl))) (fun _ _ _ _ _=>pts_nil) (fun _ _ _ _ _=>(aS AF (Hm hr) rfl (Qa (pv 0) (Qa (pv 1) (Qa (pv 8) Qb)))))) (Qa (pe_dget (u1 hr) (pv 1) (pv 2) (fun _ _=>rfl)) Qb)))
  (Qc (ps_asg (Qm ix_list (pv 4) (pv 5) (fun _ _=>rfl)) (pg_tup rfl (Qi (pg_name (i:=6) jA.nd rfl (.inl rfl)) (Qi (pg_name (i:=7) jA.nd rfl (.inl rfl)) pgs_nil))))
  (Qc (Qr (Qp (Qo (aS tX (Hm hr) rfl (Qa (aS iT (Hm hr) rfl (Qa (pv 0) (Qa (pv 1) (Qa (pv 6) Qb)))) (Qa (pv 3) Qb))))) (Qe (Qj (Ka (Qa (pv 5) (Qa Qg Qb))))) pss_nil)
  (Qe (Qj (Ka (Qa (pv 5) (Qa (pe_op Ko Qg (aS O2 (Hm hr) rfl (Qa (pv 3) (Qa (Qm Ql (Qm Ql (aS iT (Hm hr) rfl (Qa (pv 0) (Qa (pv 1) (Qa (pv 7) Qb)))) Qg (fun _ _=>rfl)) Qg (fun _ _=>rfl)) Qb)))) Qb)))))))),?_⟩
 have kY:=sizeLine_eq;have b8:=G.ok.len;obtain ⟨qT,eg⟩:=Bk.d8 (G.sub k hk);obtain ⟨km,rfl⟩:=Bk.get_some eg;obtain ⟨kn,r4,rr⟩:=G.ok.kd qT km;refine ⟨_,Ja,_,Ja,v,b,qT.n,Ja,hv,by omega,fun k hk=>Yb (G.ok.kd k hk).2.1 (by decide),fun k' e' ll us H4 s4 Fq tD kR=>?_,fun z=>by rw [eg] at z; cases z⟩;rw [eg] at e';cases e';have ul:=kR.length;refine b7 ?_;have zV:=hw.cH s4;refine ⟨_,Ja,ll,Ja,⟨_,SqL.of tD⟩,fun D2 Dw=>?_⟩;refine Zo (walk_list (xs:=us)) [] Dw (by simp) (by rw [ul,Yk]; omega) (fun j ws H5=>Bears K H5 Lad.enc ws (((mj::qT.rs).take j).map (fh b ρ))) .nil (fun H5 s5=>s5.fG aL (SqL.of tD)) (fun j ws H5 H6 s6 h=>h.sb s6 Lad.af) (fun Pv j x Hq H5 ws hj s5 y mK Ml _ fin skip=>?_) (fun ws H5 s5 d7 mK Ml=>?_)
 ·obtain ⟨rfl,ey⟩:=y;obtain ⟨r,er,Ca⟩:=kR.get ey;have rm:=Qu er;have rf:vO b ρ es r:=by
   rcases Qv rm with rfl | rm
   ·exact Sn b ρ _
   ·exact (G.ru _ hk qT eg r rm).1
  have rp:r.1.parts+r.2.parts<=4:=by
   rcases Qv rm with rfl | rm
   ·decide
   ·exact (rr r rm).1.2.2
  have Ul:=oL r.1;have Uk:=oL r.2;refine ⟨rfl,_,Ja,_,Ja,_,Ja,v,x,d,b,ρ,es,r,Ja,(hv.cH s4).cH s5,by omega,zV.cH s5,fc s5 _ _ (Ru.af _) Ca,by omega,by omega,by omega,by omega,rf,fun z H6 s6 hz=>fin z H6 s6 ?_⟩;rw [Yg,er,Yj];exact (mK.sb s6 Lad.af).append (.cons hz .nil)
 ·rw [ul,Yh] at mK;have vA:ρ qT.n ∈ (mj::qT.rs).map (fh b ρ):=by
   rw [G.own _ hk qT eg,Ky,show fh b ρ mj=Lad.b9 from KI b ρ];exact Lad.gF _ _
  obtain ⟨j,hj,GC⟩:=S4 vA;have ME:=hj;rw [List.getElem?_map] at ME;obtain ⟨r,er,Hn⟩:=Kr ME;have rm:=Qu er;obtain ⟨ux,Mi,zG⟩:=hw.val hk;have DV:=zV.cH s5;have fB:=s4.trans s5;obtain ⟨ux,Mi,zG⟩:=DV.val hk;have Xf:=K6 mK;have NJ:∀ i:Nat,(((mj::qT.rs).map (fh b ρ)).map Lad.enc)[i]?=(((mj::qT.rs).map (fh b ρ))[i]?).map Lad.enc:=fun i=>List.getElem?_map ..;refine ⟨.inl ⟨rfl,_,SqL.of d7⟩,_,Ja,_,Ja,d,ux,Ja,Mi,D2,ux,(ρ qT.n).enc,_,j,(ρ qT.n).enc,Ja,Ja,.lst (SqL.of d7) Xf,zG,?_,Wd.of (Lad.aA (by omega)),by rw [NJ,hj]; rfl,by rw [Lad.a5]; exact Ya rfl,fun m z' hm hz=>?_,?_⟩
  ·refine Lad.nW _ fun l hl=>?_;obtain ⟨r',rm',rfl⟩:=Qx hl;rcases Qv rm' with z | z
   ·rw [z,show fh b ρ mj=Lad.b9 from KI b ρ]; decide
   ·exact (G.ru _ hk qT eg r' z).2
  ·rw [NJ] at hz;obtain ⟨l',Xa,rfl⟩:=Kr hz;rw [Lad.a5];exact Qz fun z=>GC m hm (by rw [Xa,z])
  refine b7 ?_;have jl:j < us.length:=by
   rw [ul];exact (Kq er).1
  obtain ⟨xj,OD⟩:∃ xj,us[j]?=some xj:=⟨_,Kp jl⟩;obtain ⟨r',Er,Ca⟩:=kR.get OD;rw [er] at Er;cases Er;cases Ca with
  | @tup ad AW _ wD hda =>
  cases hda with
  | cons g1 hda =>
  cases hda with
  | cons g2 hda =>
  cases hda;refine ⟨_,Ja,_,Ja,ll,us,(j:Int),_,Ja,Ja,s5.fG aL (SqL.of tD),atI_nat OD,ad,_,Ja,s5.aH wD,Ja,_,_,Ja,_,_,Ja,Ja,?_⟩;obtain ⟨k1,k2,k3⟩:=Gr.iC G.toGoods hk eg rm;have rl:=Gr.my G.toGoods k1.1 k2;have rk2:=Gr.my G.toGoods k1.2.1 k3;have rt:Lad.R t:=⟨D,t1,to⟩;have rf:vO b ρ es r:=by
   rcases Qv rm with z | z
   ·rw [z]; exact Sn b ρ _
   ·exact (G.ru _ hk qT eg r z).1
  have rp:=k1.2.2;have Ul:=oL r.1;have Uk:=oL r.2;have lO:t.lt (Lad.oO (Gr.rk b ρ r.1) (Gr.rk b ρ r.2))=true:=by
   show t.lt (fh b ρ r)=true;rw [Hn]; exact cZ
  refine ⟨_,Ja,_,Ja,_,Ja,v,_,d,b,ρ,es,r.1,Ja,hv.cH fB,by omega,DV,GA.sb g1 s5,by omega,rf.1.w,by omega,fun x1 H6 s6 tu=>?_⟩;refine ⟨_,Ja,x1,y,_,t,Ja,tu,hy.sb (fB.trans s6),Yb rf.2.2.1 (by decide),_,Ja,?_⟩;cases hc:(Gr.rk b ρ r.1).lt t with
  | false =>
   refine iteT ?_;refine ⟨_,Ja,dU,fun c kQ=>?_⟩;exact q c _ qT j r 0 ((fB.trans s6).trans (SB.new kQ _)) (SqT.of Qt) eg er (by decide) (by omega) fun n' zJ=>Lad.oF rl rk2 rt lO (by omega) fun z=>by rw [hc] at z; cases z
  | true =>
   refine iteF ?_;have ene:=Lad.CP rl rt lO hc;refine ⟨_,Ja,_,Ja,_,Ja,_,Ja,_,Ja,v,_,d,b,ρ,es,r.2,Ja,hv.cH (fB.trans s6),by omega,DV.cH s6,GA.sb g2 (s5.trans s6),by omega,rf.2.1.w,by omega,fun x2 H7 s7 om=>?_⟩;obtain ⟨a2,Ts,rfl,i5,gS⟩:=je om;cases Bc:Gr.rk b ρ r.2 with
   | nil=>exact absurd Bc ene
   | cons e m rr2 =>
   rw [Bc,show (Lad.cons e m rr2).ps=(e,m)::rr2.ps from rfl] at gS;cases gS with
   | @cons y0 yr _ _ h0 pT =>
   obtain ⟨c,ue,rfl,jQ,hle⟩:=jW h0;have Dk:=(fB.trans s6).trans s7;have ed:e.deep < (Lad.cons e m rr2).deep:=Lad.av (.cons e m rr2) (e,m) (bw ..);have rfd:=rf.2.2.2.1;rw [Bc] at rfd;refine ⟨_,_,_,_,Ja,Ja,i5,atI_nat (j:=0) rfl,c,_,_,_,Ja,Ja,jQ,atI_nat (j:=0) rfl,y,ue,t,e,Ja,hy.sb Dk,hle,by omega,by omega,by omega,fun H8 s8=>?_⟩;refine ⟨_,_,Ja,Ja,dU,fun c9 hc9=>?_⟩;have sS:=Lad.CY to t1 e;refine q c9 _ qT j r (1+Lad.S t e) ((Dk.trans s8).trans (SB.new hc9 _)) (SqT.of Qt) eg er (by omega) (by omega) fun n' zJ=>Lad.oF rl rk2 rt lO (by omega) fun _=>⟨e,m,rr2,Bc,zJ⟩
abbrev zjh:List Str:=[bH]
theorem zfg:FnScope zjh [bH] (defScope JU):=fS
theorem zhz (B:BI mg) (F:Fun K ir ir JU f fd):FnOk P w K mg base CX0 (1) f fd [bH] (YD K):=by
 refine F.ok zfg (fun vs H Q E h=>?_) (fun _ A _ _ H vs Q E hr h=>?_)
 ·obtain ⟨a,ns,rfl,_⟩:=h
  rfl
 obtain ⟨a,ns,rfl,hs,nl,q⟩:=h;have bF:=bC hr;refine ⟨_,Qe (Qj (pe_disp (pps_cons pe_str (pe_callTy call_list_of rfl B.list boot_list (Qa (pv 0) Qb)) (pps_cons pe_str Qg (pps_cons pe_str Qg (pps_cons pe_str (pe_op Ko Qg (Qs call_len_seq rfl B.len PySem.boot_len (Qa (pv 0) Qb))) pps_nil)))) (by rfl) (by rfl) (fun z=>by cases z) (by decide))),?_⟩;refine fun p np=>?_;have t0:=Jb np (.dK []);have rV:=dZ t0;generalize upd H p _=H0 at t0 rV;refine ⟨_,Ja,a,_,Ja,.inl (t0.fG aL hs),fun c nc=>?_⟩;have t1:=Jb nc (.lst (ns.map V.int));have um:=dZ t1;have g9:=t1.keep _ _ rV aL;have cp:c ≠ p:=fun z=>by rw [z,rV] at nc; cases nc
 have T6:=t0.trans t1;generalize upd H0 c _=H1 at t1 um g9 T6;refine ⟨_,Ja,a,_,Ja,.inl (T6.fG aL hs),_,_,Ja,Ja,?_⟩;rw [Ye];refine ⟨g9,[(Sum.inr "cells",.ref c),(Sum.inr wQ,.int 0),(Sum.inr "left",.int 0),(Sum.inr "seed",.int (20011+(ns.length:Nat)))],rfl,by show 4<=15; decide,?_⟩;have t2:=SB.lh (ps:=[p]) g9 (by simp) (.dK (gE c 0 0 (20011+(ns.length:Nat))));refine q p _ ((T6.nil.trans t2).drop np) np ⟨c,ns,0,0,20011+(ns.length:Nat),Qt,t2.keep _ _ um (by simpa using cp),nl,by omega,by omega,⟨by omega,by decide⟩,by omega,?_⟩;have:(2:Int) ^ 31=2147483648:=by decide
 omega
abbrev zih:List Str:=[aa,aQ,"_law_cell","_law_digit","_law_seed"]
theorem qJ:FnScope zih [aa,aQ] (defScope KC):=fS
theorem zh3 (B:BI mg) (F:Fun K bK bK KC f fd):FnOk P w K mg base CX0 (1) f fd [aa,aQ] (AU):=by
 refine F.ok qJ (fun vs H Q E h=>?_) (fun _ A _ s H vs Q E hr h=>?_)
 ·obtain ⟨p,c,m,rfl,_⟩:=h
  rfl
 obtain ⟨p,c,m,rfl,hp,m1,m2,q⟩:=h;have bF:=bC hr;refine ⟨_,Qc (Qr (PW.pt (Kl (pt_cmpR op_eq (pe_dget (u1 hr) (pv 0) pe_str (fun _ _=>rfl)) Qg (nomark _)) (pw_and1 (pt_cmpR op_lt (pe_dget (u1 hr) (pv 0) pe_str (fun _ _=>rfl)) (Qs call_len_seq rfl B.len PySem.boot_len (Qa (pe_dget (u1 hr) (pv 0) pe_str (fun _ _=>rfl)) Qb)) (nomark _))))) (Qc (ps_set (i:=2) qJ.nd rfl (.inl rfl) (Qm ix_list (pe_dget (u1 hr) (pv 0) pe_str (fun _ _=>rfl)) (pe_dget (u1 hr) (pv 0) pe_str (fun _ _=>rfl)) (fun _ _=>rfl)))
  (Qc (ps_daug (u1 hr) (pv 0) pe_str Qg in_add (fun _ _ _=>rfl))
  (Qe (Qr (PW.pt (Kk (pt_cmpR op_ge (pv 2) (pe_op op_pow Qg Qg) (nomark _)) (pw_or1 (pt_cmpR op_lt (pv 2) Qg (nomark _))))) (Qe (ps_dput (u1 hr) (pv 0) pe_str (pe_op op_mod (Qs call_abs rfl B.abs boot_abs (Qa (pv 2) Qb)) (pe_op op_mulW (pe_op op_mulW (pe_op op_mulW (pe_op op_mulW (pe_op op_pow Qg Qg) (pe_op op_pow Qg Qg)) (pe_op op_pow Qg Qg)) (pe_op op_pow Qg Qg)) (pe_op op_pow Qg Qg))) rfl)) (Qe (ps_dput (u1 hr) (pv 0) pe_str (pe_op op_mod (pe_op Ko (pe_op op_mul (pe_dget (u1 hr) (pv 0) pe_str (fun _ _=>rfl)) Qg) (pe_op op_mod (pv 2) Qg)) Qg) rfl)))))) pss_nil)
  (Qc (Qr (pt_cmpR op_gt (pe_dget (u1 hr) (pv 0) pe_str (fun _ _=>rfl)) Qg (nomark _)) (Qc (ps_set (i:=3) qJ.nd rfl (.inl rfl) (pe_op op_mod (pe_dget (u1 hr) (pv 0) pe_str (fun _ _=>rfl)) (pv 1)))
  (Qc (ps_dput (u1 hr) (pv 0) pe_str (pe_op op_fdivW (pe_dget (u1 hr) (pv 0) pe_str (fun _ _=>rfl)) (pv 1)) rfl)
  (Qe (Qj (pv 3))))) pss_nil)
  (Qc (ps_set (i:=4) qJ.nd rfl (.inl rfl) (pe_op op_mod (pe_op Ko (pe_op op_mul (pe_dget (u1 hr) (pv 0) pe_str (fun _ _=>rfl)) Qg) Qg) Qg))
  (Qc (ps_dput (u1 hr) (pv 0) pe_str (pv 4) rfl)
  (Qe (Qj (pe_op op_mod (pe_op Ko (pe_op op_mul (pe_op op_mod (pe_op op_mul (pv 4) (pv 4)) Qg) Qg) (pe_op op_fdivW (pv 4) Qg)) (pv 1))))))),?_⟩
 obtain ⟨ns,a,l,s,rV,hc,nl,a0,a1,⟨l0,l1⟩,⟨s0,s1⟩⟩:=hp;refine AS (fun σ' G=>∃ (a l s:Int) (o2:Option V),σ'=[some (.ref p),some (.int m),o2,none,none]/\SB [p] H G/\G p=some (.dK (gE c a l s))/\G c=some (.lst (ns.map V.int))/\0<=a/\a<=ns.length/\(0<=l/\l < 10 ^ 320)/\(0<=s/\s < 2 ^ 31)) (fun nx ji=>?_) (fun σ' G h=>?_)
 ·have cp:c ≠ p:=fun z=>by rw [z,rV] at hc; cases hc
  have stay:SB [p] H H:=SB.refl;have e31:(2:Int) ^ 31=2147483648:=by decide
  refine ⟨_,Ja,p,_,Ja,jk rV (QA _ _ _ _),Ja,_,Ja,?_⟩;by_cases h0:l=0
  ·rw [show decide (V.int l=V.int 0)=true from Ya (by rw [h0])];refine iteT ?_;refine ⟨_,Ja,p,_,Ja,jk rV (Sh _ _ _ _),_,Ja,p,_,Ja,jk rV (Z7 _ _ _ _),c,_,Ja,.inl (SqL.of hc),_,_,Ja,Ja,_,Ja,?_⟩;rw [Ye];by_cases h1:a < ns.length
   ·rw [Ya h1];refine iteT ?_;obtain ⟨j,rfl⟩:∃ j:Nat,a=(j:Int):=⟨a.toNat,by omega⟩;have ej:ns[j]?=some ns[j]:=Kp (by omega);generalize ns[j]=x at ej;refine ⟨_,Ja,p,_,Ja,jk rV (Z7 _ _ _ _),_,Ja,p,_,Ja,jk rV (Sh _ _ _ _),c,_,_,_,Ja,Ja,SqL.of hc,atI_nat (j:=j) (by rw [List.getElem?_map,ej]; rfl),?_⟩;refine b7 ?_;refine ⟨_,rfl,p,_,rfl,jk rV (Sh _ _ _ _),_,_,rfl,rfl,_,DPut.k (k:=Sum.inr wQ) rV (by show 4 < sizeLine; decide),?_⟩;have t1:=SB.lh (ps:=[p]) rV (by simp) (.dK (gE c ((j:Int)+1) l s));have g9:upd H p (.dK (gE c ((j:Int)+1) l s)) p=some (.dK (gE c ((j:Int)+1) l s)):=Qt;have um:=t1.keep _ _ hc (by simpa using cp);rw [zhb];generalize upd H p _=H1 at t1 g9 um;refine ⟨_,Ja,10,18,Ja,Ja,⟨by decide,by decide⟩,_,_,Ja,Ja,_,Ja,?_⟩;by_cases g1:(10:Int) ^ (18:Int).toNat<=x
    ·rw [Ya g1];refine iteT ?_;refine ⟨_,Ja,x,Ja,10,64,Ja,Ja,⟨by decide,by decide⟩,10,64,Ja,Ja,⟨by decide,by decide⟩,_,_,Ja,Ja,by unfold CMulW; decide +kernel,10,64,rfl,rfl,⟨by decide,by decide⟩,_,_,rfl,rfl,by unfold CMulW; decide +kernel,10,64,rfl,rfl,⟨by decide,by decide⟩,_,_,rfl,rfl,by unfold CMulW; decide +kernel,10,64,rfl,rfl,⟨by decide,by decide⟩,_,_,rfl,rfl,by unfold CMulW; decide +kernel,_,_,rfl,rfl,(by show (0:Int) < 10 ^ Int.toNat 64*10 ^ Int.toNat 64*10 ^ Int.toNat 64*10 ^ Int.toNat 64*10 ^ Int.toNat 64; decide +kernel),?_⟩;refine ⟨_,rfl,p,_,rfl,DPut.k (k:=Sum.inr "left") g9 (by show 4 < sizeLine; decide),?_⟩;have t2:=SB.lh (ps:=[p]) g9 (by simp) (.dK (gE c ((j:Int)+1) ((if x < 0 then -x else x) % (10 ^ 320)) s));refine ji _ _ ⟨(j:Int)+1,(if x < 0 then -x else x) % (10 ^ 320),s,_,Ja,t1.trans t2,Qt,t2.keep _ _ um (by simpa using cp),by omega,by omega,⟨Int.emod_nonneg _ (by decide),Int.emod_lt_of_pos _ (by decide)⟩,⟨s0,s1⟩⟩
    rw [Qz g1];refine iteF ⟨_,Ja,_,_,Ja,Ja,_,Ja,?_⟩;by_cases g2:x < 0
    ·rw [Ya g2];refine iteT ?_;refine ⟨_,Ja,x,Ja,10,64,Ja,Ja,⟨by decide,by decide⟩,10,64,Ja,Ja,⟨by decide,by decide⟩,_,_,Ja,Ja,by unfold CMulW; decide +kernel,10,64,rfl,rfl,⟨by decide,by decide⟩,_,_,rfl,rfl,by unfold CMulW; decide +kernel,10,64,rfl,rfl,⟨by decide,by decide⟩,_,_,rfl,rfl,by unfold CMulW; decide +kernel,10,64,rfl,rfl,⟨by decide,by decide⟩,_,_,rfl,rfl,by unfold CMulW; decide +kernel,_,_,rfl,rfl,(by show (0:Int) < 10 ^ Int.toNat 64*10 ^ Int.toNat 64*10 ^ Int.toNat 64*10 ^ Int.toNat 64*10 ^ Int.toNat 64; decide +kernel),?_⟩;refine ⟨_,rfl,p,_,rfl,DPut.k (k:=Sum.inr "left") g9 (by show 4 < sizeLine; decide),?_⟩;have t2:=SB.lh (ps:=[p]) g9 (by simp) (.dK (gE c ((j:Int)+1) ((if x < 0 then -x else x) % (10 ^ 320)) s));refine ji _ _ ⟨(j:Int)+1,(if x < 0 then -x else x) % (10 ^ 320),s,_,Ja,t1.trans t2,Qt,t2.keep _ _ um (by simpa using cp),by omega,by omega,⟨Int.emod_nonneg _ (by decide),Int.emod_lt_of_pos _ (by decide)⟩,⟨s0,s1⟩⟩
    rw [Qz g2];refine iteF ?_;refine ⟨_,Ja,p,_,Ja,jk g9 (ZL _ _ _ _),_,_,Ja,Ja,.inr ⟨by decide,by decide⟩,_,Ja,_,_,Ja,Ja,(by show (0:Int) < 2147483629; decide),_,_,rfl,rfl,_,_,rfl,rfl,(by show (0:Int) < 2147483647; decide),?_⟩;refine ⟨_,rfl,p,_,rfl,DPut.k (k:=Sum.inr "seed") g9 (by show 4 < sizeLine; decide),?_⟩;have t2:=SB.lh (ps:=[p]) g9 (by simp) (.dK (gE c ((j:Int)+1) l ((s*48271+x % 2147483629) % 2147483647)));have b1:=Int.emod_nonneg (s*48271+x % 2147483629) (show (2147483647:Int) ≠ 0 by decide);have b2:=Int.emod_lt_of_pos (s*48271+x % 2147483629) (show (0:Int) < 2147483647 by decide);exact ji _ _ ⟨(j:Int)+1,l,(s*48271+x % 2147483629) % 2147483647,_,Ja,t1.trans t2,Qt,t2.keep _ _ um (by simpa using cp),by omega,by omega,⟨l0,l1⟩,by omega,by omega⟩
   ·rw [Qz h1];exact iteF (ji _ _ ⟨a,l,s,_,Ja,stay,rV,hc,a0,a1,⟨l0,l1⟩,⟨s0,s1⟩⟩)
  ·rw [show decide (V.int l=V.int 0)=false from Qz (fun z=>h0 (by injection z))];exact iteF (ji _ _ ⟨a,l,s,_,Ja,stay,rV,hc,a0,a1,⟨l0,l1⟩,⟨s0,s1⟩⟩)
 ·obtain ⟨a,l,s,o2,rfl,s2,eY,kQ,a0,a1,⟨l0,l1⟩,⟨s0,s1⟩⟩:=h;have cp:c ≠ p:=fun z=>by rw [z,eY] at kQ; cases kQ
  refine AS (fun σ' G2=>σ'=[some (.ref p),some (.int m),o2,none,none]/\G2=G/\l=0) (fun nx ji=>?_) (fun σ' G2 h=>?_)
  ·refine ⟨_,Ja,p,_,Ja,jk eY (QA _ _ _ _),_,_,Ja,Ja,_,Ja,?_⟩;by_cases h0:0 < l
   ·rw [Ya h0];refine iteT ?_;refine ⟨_,Ja,p,_,Ja,jk eY (QA _ _ _ _),_,Ja,_,_,Ja,Ja,(show (0:Int) < m by omega),?_⟩;refine b7 ?_;refine ⟨_,Ja,p,_,Ja,jk eY (QA _ _ _ _),_,Ja,_,_,Ja,Ja,⟨by omega,Nat.lt_of_lt_of_le ((Nat.log2_lt (show m.natAbs ≠ 0 by omega)).mpr (show m.natAbs < 2 ^ 2000 by omega)) (by decide)⟩,?_⟩;refine ⟨_,rfl,p,_,rfl,DPut.k (k:=Sum.inr "left") eY (by show 4 < sizeLine; decide),?_⟩;have t2:=SB.lh (ps:=[p]) eY (by simp) (.dK (gE c a (l / m) s));refine ⟨_,Ja,q _ _ (Int.emod_nonneg _ (by omega)) (Int.emod_lt_of_pos _ (by omega)) (s2.trans t2) ⟨ns,a,l / m,s,Qt,t2.keep _ _ kQ (by simpa using cp),nl,a0,a1,⟨Int.ediv_nonneg l0 (by omega),Int.lt_of_le_of_lt (Int.ediv_le_self m l0) l1⟩,⟨s0,s1⟩⟩⟩
   ·rw [Qz h0];exact iteF (ji _ _ ⟨rfl,Ja,by omega⟩)
  ·obtain ⟨rfl,rfl,rfl⟩:=h;have e31:(2:Int) ^ 31=2147483648:=by decide
   refine ⟨_,Ja,p,_,Ja,jk eY (ZL _ _ _ _),_,_,Ja,Ja,.inr ⟨by decide,by decide⟩,_,_,Ja,Ja,_,_,Ja,Ja,(by show (0:Int) < 2147483629; decide),?_⟩;have b1:=Int.emod_nonneg (s*69621+16807) (show (2147483629:Int) ≠ 0 by decide);have b2:=Int.emod_lt_of_pos (s*69621+16807) (show (0:Int) < 2147483629 by decide);refine b7 ?_;refine ⟨_,rfl,_,rfl,p,_,rfl,DPut.k (k:=Sum.inr "seed") eY (by show 4 < sizeLine; decide),?_⟩;have t2:=SB.lh (ps:=[p]) eY (by simp) (.dK (gE c a 0 ((s*69621+16807) % 2147483629)));have m1:CMul ((s*69621+16807) % 2147483629) ((s*69621+16807) % 2147483629):=.inl ⟨Int.lt_of_lt_of_le (by decide) b1,Int.lt_trans b2 (by decide)⟩;refine ⟨_,Ja,_,Ja,_,_,Ja,Ja,m1,_,_,Ja,Ja,(by show (0:Int) < 2147483587; decide),_,_,rfl,rfl,.inr ⟨by decide,by decide⟩,_,rfl,_,_,rfl,rfl,⟨by decide,by decide⟩,_,_,rfl,rfl,_,rfl,_,_,rfl,rfl,(show (0:Int) < m by omega),?_⟩;exact q _ _ (Int.emod_nonneg _ (by omega)) (Int.emod_lt_of_pos _ (by omega)) (s2.trans t2) ⟨ns,a,0,((s*69621+16807) % 2147483629),Qt,t2.keep _ _ kQ (by simpa using cp),nl,a0,a1,⟨by omega,by decide⟩,⟨b1,by omega⟩⟩
abbrev zl2:List Str:=[aI,ax,"_law_pair","_law_more"]
theorem uU:FnScope zl2 [aI,ax] (defScope JY):=fS
theorem z6o {ps:List Str}:FnOk P w K mg base CX0 k f fd ps (yb K 0):=vW fun vs H Q E ⟨v,u,l,k,_,_,_,h,_⟩=>by omega
theorem zf9 (B:BI mg) (hI:Got P w K mg base bD [aI,ax] (n) (yb K n)) (F:Fun K bD bD JY f fd):FnOk P w K mg base CX0 (n+1) f fd [aI,ax] (yb K (n+1)):=by
 refine F.ok uU (fun vs H Q E h=>?_) (fun _ A _ _ H vs Q E hr h=>?_)
 ·obtain ⟨v,u,l,o,rfl,_⟩:=h
  rfl
 obtain ⟨v,u,l,o,rfl,hv,hu,hdn,hd,hd2,q⟩:=h;have bF:=bC hr;refine ⟨_,Qc (ps_for PassesOwn.never rfl (RZ.pi_zipA rfl B.zip (Qa (pv 0) (Qa (pv 1) Qb))) (pg_tup rfl (Qi (pg_name (i:=2) uU.nd rfl (.inl rfl)) (Qi (pg_name (i:=3) uU.nd rfl (.inl rfl)) pgs_nil)))
   (Qe (Qr (pt_cmpR (op_neD (mb hr)) (pv 2) (pv 3) (nomark _)) (Qc (Qr (pt_cmpR (op_neD (mb hr)) (Qm Ql (pv 2) Qg (fun _ _=>rfl)) (Qm Ql (pv 3) Qg (fun _ _=>rfl)) (nomark _)) (Qe (Qj (aS hI (Hm hr) rfl (Qa (Qm Ql (pv 2) Qg (fun _ _=>rfl)) (Qa (Qm Ql (pv 3) Qg (fun _ _=>rfl)) Qb))))) pss_nil)
  (Qe (Qj (pe_cmpR op_lt (Qm Ql (pv 2) Qg (fun _ _=>rfl)) (Qm Ql (pv 3) Qg (fun _ _=>rfl)) (nomark _))))) pss_nil)))
  (Qe (Qj (pe_cmpR op_lt (Qs call_len_seq rfl B.len PySem.boot_len (Qa (pv 0) Qb)) (Qs call_len_seq rfl B.len PySem.boot_len (Qa (pv 1) Qb)) (nomark _)))),?_⟩
 obtain ⟨a,xs,rfl,i5,gS⟩:=je hv;obtain ⟨b,ys,rfl,hZ,fQ⟩:=je hu;have xl:=gS.length;have yl:=fQ.length;refine ⟨_,Ja,_,Ja,a,b,xs,ys,Ja,.inr ⟨i5,hZ,?_⟩⟩;refine for_it (zbt (xs:=xs) (ys:=ys) (n:=min xs.length ys.length) rfl) (fun i σ H2=>SB [] H H2/\(∃ o2 o3:Option V,σ=[some (.ref a),some (.ref b),o2,o3])/\i<=l.ps.length/\i<=o.ps.length/\l.lt o=(Lad.ofPs (l.ps.drop i)).lt (Lad.ofPs (o.ps.drop i))) ⟨SB.refl,⟨none,none,Ja⟩,Nat.zero_le _,Nat.zero_le _,by rw [List.drop_zero,List.drop_zero,Lad.aE,Lad.aE]⟩ (fun i σ H2 hi h2=>⟨h2.1.aH i5,h2.1.aH hZ⟩) (fun i x σ H2 H' hi h2 y=>?_) (fun σ H2 h2=>?_)
 ·obtain ⟨s2,⟨o2,o3,rfl⟩,il,io,cZ⟩:=h2;obtain ⟨T,e1,e2,rfl,hT,rfl,OI,OH⟩:=y;obtain ⟨p1,Ab,g9⟩:=gS.get OI;obtain ⟨p2,yo,eY⟩:=fQ.get OH;obtain ⟨a1,u1,rfl,lN,kP⟩:=jW g9;obtain ⟨a2,u2,rfl,dS,kO⟩:=jW eY;have d1:=l.av p1 (Qu Ab);have d2:=o.av p2 (Qu yo);have i1:=(Kq Ab).1;have i2:=(Kq yo).1;rw [Lad.wz Ab yo] at cZ;have t3:=Jb hT (.tup [.ref a1,.ref a2]);have zU:=gA (K:=K) t3;have s3:=s2.trans t3;generalize upd H2 T _=H3 at t3 zU s3;have Ce:=fc s3 _ _ (Lad.ae _) g9;have Vl:=fc s3 _ _ (Lad.ae _) eY;refine ⟨T,_,Ja,zU,Ja,_,_,Ja,_,_,Ja,Ja,?_⟩;refine ⟨_,Ja,_,Ja,Lad.aC p1,Lad.aC p2,Ce,Vl,Lad.fM (by omega),Lad.fM (by omega),_,Ja,?_⟩;rw [Lad.tL];by_cases he:p1.1=p2.1
  ·by_cases hm:p1.2=p2.2
   ·rw [show (!(decide (p1.1=p2.1)&&decide (p1.2=p2.2)))=false by simp [he,hm]];rw [if_pos he,if_pos hm] at cZ;exact iteF ⟨s3,⟨_,_,Ja⟩,by omega,by omega,cZ⟩
   ·rw [show (!(decide (p1.1=p2.1)&&decide (p1.2=p2.2)))=true by simp [hm]];rw [if_pos he,if_neg hm] at cZ;refine iteT ?_;refine ⟨_,Ja,a1,_,_,_,Ja,Ja,s3.aH lN,atI_nat (j:=0) rfl,_,Ja,a2,_,_,_,Ja,Ja,s3.aH dS,atI_nat (j:=0) rfl,p1.1.enc,p2.1.enc,kP.sb s3,kO.sb s3,Lad.aA (by omega),Lad.aA (by omega),_,Ja,?_⟩;rw [Lad.a5,show (!decide (p1.1=p2.1))=false by simp [he]];refine iteF ?_;refine ⟨_,Ja,a1,_,_,_,Ja,Ja,s3.aH lN,atI_nat (j:=1) rfl,_,Ja,a2,_,_,_,Ja,Ja,s3.aH dS,atI_nat (j:=1) rfl,_,_,Ja,Ja,?_⟩;have:=q H3 s3;rw [cZ] at this;exact this
  ·rw [show (!(decide (p1.1=p2.1)&&decide (p1.2=p2.2)))=true by simp [he]];rw [if_neg he] at cZ;refine iteT ?_;refine ⟨_,Ja,a1,_,_,_,Ja,Ja,s3.aH lN,atI_nat (j:=0) rfl,_,Ja,a2,_,_,_,Ja,Ja,s3.aH dS,atI_nat (j:=0) rfl,p1.1.enc,p2.1.enc,kP.sb s3,kO.sb s3,Lad.aA (by omega),Lad.aA (by omega),_,Ja,?_⟩;rw [Lad.a5,show (!decide (p1.1=p2.1))=true by simp [he]];refine iteT ?_;refine ⟨_,Ja,a1,_,_,_,Ja,Ja,s3.aH lN,atI_nat (j:=0) rfl,_,Ja,a2,_,_,_,Ja,Ja,s3.aH dS,atI_nat (j:=0) rfl,u1,u2,p1.1,p2.1,Ja,kP.sb s3,kO.sb s3,by omega,by omega,by omega,fun H4 s4=>?_⟩;have:=q H4 (s3.trans s4);rw [cZ] at this;exact this
 ·obtain ⟨s2,⟨o2,o3,rfl⟩,il,io,cZ⟩:=h2;have MS:=Lad.zq il io (by omega);refine ⟨_,Ja,a,xs,Ja,.inr (s2.aH i5),_,Ja,b,ys,Ja,.inr (s2.aH hZ),_,_,Ja,Ja,?_⟩;have:=q H2 s2;rw [cZ,MS] at this;have e:decide ((xs.length:Int) < (ys.length:Int))=(decide (min xs.length ys.length=l.ps.length)&&decide (min xs.length ys.length < o.ps.length)):=by
   by_cases h:xs.length < ys.length
   ·have h1:min xs.length ys.length=l.ps.length:=by omega
    have h2:min xs.length ys.length < o.ps.length:=by omega
    rw [Ya h1,Ya h2,Ya (by omega)]; rfl
   ·have h2:¬ min xs.length ys.length < o.ps.length:=by omega
    rw [Qz h2,Bool.and_false,Qz (by omega)]
  rw [<- e] at this;exact this
abbrev Hz:List Str:=[aI,ax,"_law_first","_law_kept","_law_same","_law_pair"]
theorem pI:FnScope Hz [aI,ax] (defScope uV):=fS
theorem ziy (B:BI mg) (hI:Got P w K mg base bD [aI,ax] (40) (yb K 40)) (F:Fun K cG cG uV f fd):FnOk P w K mg base CX0 (41) f fd [aI,ax] (QJ K):=by
 refine F.ok pI (fun vs H Q E h=>?_) (fun _ A _ s H vs Q E hr h=>?_)
 ·obtain ⟨v,u,l,k,rfl,_⟩:=h
  rfl
 obtain ⟨v,u,l,k,rfl,hv,hu,hd,hd2,hp,eY,q⟩:=h;have bF:=bC hr;refine ⟨_,Qc (Qr (pt_cmpR (op_eqD (mb hr)) (pv 1) (Ka Qb) (nomark _)) (Qe (Qj (pv 0))) pss_nil)
  (Qc (ps_set (i:=2) pI.nd rfl (.inr rfl) (Qm Ql (Qm Ql (pv 1) Qg (fun _ _=>rfl)) Qg (fun _ _=>rfl)))
  (Qc (ps_setLc (i:=3) (own:=[("_law_pair",5)]) (g:=(gName 5)) (tt:=(tB (tCall (yb K 40) [] E0 (tCons (tVar 2) (tCons (tOp (rIxT K) (tVar 5) (tC (.int 0))) tNil))))) (te:=(tVar 5)) rfl pI.nd rfl rfl (sw_true rfl rfl rfl (by decide +kernel)) (pi_tup (pv 0)) (blkOk_by (N:=Hz) (sc:=defScope uV) (by decide +kernel)) (fun _ _ _ _ _=>(pg_name (i:=5) pI.nd rfl (.inl rfl))) (fun _ _ _ _ _=>(pts_one (Qo (aS hI (Hm hr) rfl (Qa (pv 2) (Qa (Qm Ql (pv 5) Qg (fun _ _=>rfl)) Qb)))))) (fun _ _ _ _ _=>(pv 5)))
  (Qc (ps_setLc (i:=4) (own:=[("_law_pair",5)]) (g:=(gName 5)) (tt:=(tTest (tOp (rEqD K) (tOp (rIxT K) (tVar 5) (tC (.int 0))) (tVar 2)))) (te:=(tOp (rIxT K) (tVar 5) (tC (.int 1)))) rfl pI.nd rfl rfl (sw_true rfl rfl rfl (by decide +kernel)) (pi_tup (pv 0)) (blkOk_by (N:=Hz) (sc:=defScope uV) (by decide +kernel)) (fun _ _ _ _ _=>(pg_name (i:=5) pI.nd rfl (.inl rfl))) (fun _ _ _ _ _=>(pts_one (pt_cmpR (op_eqD (mb hr)) (Qm Ql (pv 5) Qg (fun _ _=>rfl)) (pv 2) (nomark _)))) (fun _ _ _ _ _=>(Qm Ql (pv 5) Qg (fun _ _=>rfl))))
  (Qe (Qj (pe_op yc (pe_op yc (pe_callTy call_tuple_of rfl B.tuple boot_tuple (Qa (pv 3) Qb)) (Ka (Qa (Ka (Qa (pv 2) (Qa (pe_op Ko (Qm Ql (Qm Ql (pv 1) Qg (fun _ _=>rfl)) Qg (fun _ _=>rfl)) (Qs (cr_sum rfl) rfl B.sum boot_sum (Qa (pv 4) Qb))) Qb))) Qb))) (pe_slice yq (pv 1) (po_some Qg) po_none))))))),?_⟩
 have kY:=sizeLine_eq;obtain ⟨a,xs,rfl,i5,gS⟩:=je hv;obtain ⟨b,ys,rfl,hZ,fQ⟩:=je hu;have xl:=gS.length;have lp:=l.aM;rw [<- Lad.a7] at lp;refine ⟨_,Ja,Z0,fun z nz=>?_⟩;have t1:=Jb nz (.tup []);have vq:=dZ t1;generalize upd H z _=H1 at t1 vq;refine ⟨k.enc,Lad.enc .nil,LA.sb hu t1,uf (SqT.of vq),Lad.aA (by omega),Lad.aA (by decide),_,Ja,?_⟩;rw [Lad.a5];cases k with
 | nil =>
  refine iteT ⟨_,Ja,?_⟩;have:=q (.ref a) H1 t1;rw [Lad.dC] at this;exact this (LA.sb hv t1)
 | cons e m r =>
  refine iteF ?_;rw [show (Lad.cons e m r).ps=(e,m)::r.ps from rfl] at fQ;cases fQ with
  | @cons y0 yr _ _ h0 pT =>
  obtain ⟨c,ue,rfl,jQ,hle⟩:=jW h0;have ed:e.deep < (Lad.cons e m r).deep:=Lad.av (.cons e m r) (e,m) (bw ..);refine ⟨_,Ja,b,_,_,.ref c,Ja,Ja,t1.aH hZ,atI_nat (j:=0) rfl,c,_,_,ue,Ja,Ja,t1.aH jQ,atI_nat (j:=0) rfl,?_⟩;refine ⟨_,Ja,a,Ja,⟨xs,t1.aH i5⟩,fun D nD=>?_⟩;refine oU (walk_tup (xs:=xs)) nD (by omega) (fun i ws H2=>Bears K H2 Lad.aC ws ((l.ps.take i).filter fun p=>e.lt p.1)) .nil (fun H2 s2=>(t1.trans s2).aH i5) (fun _ _ _ _ s h=>h.sb s Lad.ae) (fun Pv i x Hq H2 ws hi s2 y hR Vc fin skip=>?_) (fun ws H3 s3 b0 hR Vc=>?_)
  ·obtain ⟨rfl,ey⟩:=y;obtain ⟨p,ep,gz⟩:=gS.get ey;obtain ⟨ad,ux,rfl,dS,vB⟩:=jW gz;have jD:=t1.trans s2;have pd:=l.av p (Qu ep);refine ⟨rfl,?_⟩;refine ⟨_,Ja,_,Ja,ad,_,_,ux,Ja,Ja,jD.aH dS,atI_nat (j:=0) rfl,ue,ux,e,p.1,Ja,LA.sb hle jD,LA.sb vB jD,by omega,by omega,by omega,fun H4 s4=>⟨_,Ja,?_⟩⟩;have e0:(l.ps.take (i+1)).filter (fun p=>e.lt p.1)=(l.ps.take i).filter (fun p=>e.lt p.1)++(if e.lt p.1=true then [p] else []):=by
    rw [Yg,ep,List.filter_append];cases hc:e.lt p.1 <;> simp [hc]
   cases hc:e.lt p.1 with
   | true =>
    refine iteT ⟨_,Ja,fin _ _ s4 ?_⟩;rw [e0,if_pos hc];exact (hR.sb s4 Lad.ae).append (.cons (fc (jD.trans s4) _ _ (Lad.ae _) gz) .nil)
   | false =>
    refine iteF (skip _ s4 ?_);rw [e0,if_neg (by simp [hc]),Kz];exact hR.sb s4 Lad.ae
  rw [xl,Yh] at hR;have fy:=t1.trans s3;refine ⟨_,Ja,a,Ja,⟨xs,fy.aH i5⟩,fun D2 Dw=>?_⟩;refine oU (walk_tup (xs:=xs)) Dw (by omega) (fun i ws _=>ws=(((l.ps.take i).filter fun x=>decide (x.1=e)).map (·.2)).map V.int) rfl (fun H2 s2=>(fy.trans s2).aH i5) (fun _ _ _ _ _ h=>h) (fun Pv i x Hq H2 ws2 hi s2 y Nu Vb fin skip=>?_) (fun ws2 H4 s4 i6 Nu Vb=>?_)
  ·obtain ⟨rfl,ey⟩:=y;obtain ⟨p,ep,gz⟩:=gS.get ey;obtain ⟨ad,ux,rfl,dS,vB⟩:=jW gz;have jD:=fy.trans s2;have pd:=l.av p (Qu ep);refine ⟨rfl,?_⟩;refine ⟨_,Ja,ad,_,_,ux,Ja,Ja,jD.aH dS,atI_nat (j:=0) rfl,_,Ja,p.1.enc,e.enc,LA.sb vB jD,LA.sb hle jD,Lad.aA (by omega),Lad.aA (by omega),_,Ja,?_⟩;rw [Lad.a5];by_cases he:p.1=e
   ·rw [Ya he];refine iteT ⟨_,Ja,ad,_,_,_,Ja,Ja,jD.aH dS,atI_nat (j:=1) rfl,fin _ _ SB.refl ?_⟩;rw [Nu,Yg,ep];simp [he]
   ·rw [Qz he];refine iteF (skip _ SB.refl ?_);rw [Nu,Yg,ep];simp [he]
  rw [xl,Yh] at Nu;subst Nu;refine b7 ?_;have mf:=fy.trans s4;have Ww:=s4.keep _ _ b0 aL;have zV:=hR.sb s4 Lad.ae;refine ⟨_,Ja,D,ws,Ja,.inl ⟨SqL.of Ww,fun kt Bb=>?_⟩⟩;have s5:=Jb Bb (.tup ws);have MA:=dZ s5;have mK:=zV.sb s5 Lad.ae;have NC:=s5.keep _ _ i6 aL;have fB:=mf.trans s5;generalize upd H4 kt _=H5 at s5 MA mK fB NC;refine ⟨_,Ja,_,Ja,b,_,_,.ref c,Ja,Ja,fB.aH hZ,atI_nat (j:=0) rfl,c,_,_,_,Ja,Ja,fB.aH jQ,atI_nat (j:=1) rfl,_,Ja,D2,_,Ja,SqL.of NC,?_⟩;rw [Sf];refine ⟨_,_,Ja,Ja,(dU),fun t1' FN=>?_⟩;have s6:=Jb FN (.tup [ue,.int (m+Lad.aG l.ps e)]);have ht6:=dZ s6;generalize upd H5 t1' _=H6 at s6 ht6;refine ⟨(Z1),fun t2 FL=>?_⟩;have s7:=Jb FL (.tup [.ref t1']);have ht7:=dZ s7;have Mn:=s7.aH (SqT.of (K:=K) ht6);generalize upd H6 t2 _=H7 at s7 ht7 Mn;have al:=hR.length;have yT:=s6.trans s7;refine ⟨kt,t2,_,_,Ja,Ja,yT.aH (SqT.of MA),SqT.of ht7,by rw [Yi]; omega,fun c1 H8 s8 um=>?_⟩;have Lx:=(fB.trans yT).trans s8;refine ⟨_,Ja,1,Ja,b,_,Ja,Lx.aH hZ,fun c2 H9 s9 kQ=>?_⟩;have e1:cutV (V.ref c::yr) (some 1) none=yr:=by
   have:=KR (V.ref c::yr) 1;exact this
  rw [e1] at kQ;have rl:=pT.length;have rp:=(Lad.cons e m r).aM;have rp2:r.ps.length+1=(Lad.cons e m r).len:=by rw [<- Lad.a7]; rfl
  refine ⟨c1,c2,_,_,Ja,Ja,s9.aH um,kQ,by rw [Yf,Yi]; omega,fun c3 mP mF uk=>?_⟩;have sJ:=(Lx.trans s9).trans mF;refine q _ _ sJ ?_;rw [Lad.cM,Int.add_comm (Lad.aG l.ps e) m];refine uD uk ?_;have z1:=((yT.trans s8).trans s9).trans mF;rw [List.append_assoc];refine Bears.append (mK.sb z1 Lad.ae) (.cons ?_ (pT.sb sJ Lad.ae));exact Dp.tup (((s8.trans s9).trans mF).aH Mn) (.cons (LA.sb hle sJ) (.cons (.int _) .nil))
abbrev XC:List Str:=[aI,ax,"_law_found","_law_left","_law_right"]
theorem wg:FnScope XC [aI,ax] (defScope yS):=fS
theorem zii (B:BI mg) (hI:Got P w K mg base bD [aI,ax] (40) (yb K 40)) (F:Fun K dj dj yS f fd):FnOk P w K mg base CX0 (41) f fd [aI,ax] (KP K):=by
 refine F.ok wg (fun vs H Q E h=>?_) (fun _ A _ _ H vs Q E hr h=>?_)
 ·obtain ⟨v,u,l,k,rfl,_⟩:=h
  rfl
 obtain ⟨v,u,l,k,rfl,hv,hu,hd,hd2,hp,eY,q⟩:=h;have bF:=bC hr;refine ⟨_,Qc (ps_set (i:=2) wg.nd rfl (.inl rfl) (pe_lst Qb))
  (Qc (ps_set (i:=3) wg.nd rfl (.inl rfl) (pe_callTy call_list_of rfl B.list boot_list (Qa (pv 0) Qb)))
  (Qc (ps_set (i:=4) wg.nd rfl (.inl rfl) (pe_callTy call_list_of rfl B.list boot_list (Qa (pv 1) Qb)))
  (Qc (ps_while PassesOwn.never (PW.pt (Kl (pt_cmpR (op_neD (mb hr)) (pv 3) (pe_lst Qb) (nomark _)) (pw_and1 (pt_cmpR (op_neD (mb hr)) (pv 4) (pe_lst Qb) (nomark _))))) (Qe (Qr (pt_cmpR (op_eqD (mb hr)) (Qm Ql (Qm ix_list (pv 3) Qg (fun _ _=>rfl)) Qg (fun _ _=>rfl)) (Qm Ql (Qm ix_list (pv 4) Qg (fun _ _=>rfl)) Qg (fun _ _=>rfl)) (nomark _)) (Qe (Kf (Kn Ki PySem.F.slot_list_append PySem.F.type_list_append mt_append (pv 2) (Qa (Ka (Qa (Qm Ql (Qm ix_list (pv 3) Qg (fun _ _=>rfl)) Qg (fun _ _=>rfl)) (Qa (pe_op Ko (Qm Ql (Kn Ki PySem.F.slot_list_pop PySem.F.type_list_pop mt_popAt (pv 3) (Qa Qg Qb)) Qg (fun _ _=>rfl)) (Qm Ql (Kn Ki PySem.F.slot_list_pop PySem.F.type_list_pop mt_popAt (pv 4) (Qa Qg Qb)) Qg (fun _ _=>rfl))) Qb))) Qb)))) (Qe (Qr (Qo (aS hI (Hm hr) rfl (Qa (Qm Ql (Qm ix_list (pv 3) Qg (fun _ _=>rfl)) Qg (fun _ _=>rfl)) (Qa (Qm Ql (Qm ix_list (pv 4) Qg (fun _ _=>rfl)) Qg (fun _ _=>rfl)) Qb)))) (Qe (Kf (Kn Ki PySem.F.slot_list_append PySem.F.type_list_append mt_append (pv 2) (Qa (Kn Ki PySem.F.slot_list_pop PySem.F.type_list_pop mt_popAt (pv 4) (Qa Qg Qb)) Qb)))) (Qe (Kf (Kn Ki PySem.F.slot_list_append PySem.F.type_list_append mt_append (pv 2) (Qa (Kn Ki PySem.F.slot_list_pop PySem.F.type_list_pop mt_popAt (pv 3) (Qa Qg Qb)) Qb)))))))))
  (Qe (Qj (pe_callTy call_tuple_of rfl B.tuple boot_tuple (Qa (pe_op op_cat (pe_op op_cat (pv 2) (pv 3)) (pv 4)) Qb))))))),?_⟩
 have kY:=sizeLine_eq;obtain ⟨a,xs,rfl,i5,gS⟩:=je hv;obtain ⟨b,ys,rfl,hZ,fQ⟩:=je hu;have xl:=gS.length;have yl:=fQ.length;have llp:=l.aM;have klp:=k.aM;rw [<- Lad.a7] at llp klp;have ld:∀ p ∈ l.ps,p.1.deep<=30:=fun p hp=>by have:=l.av p hp; omega
 have kd:∀ p ∈ k.ps,p.1.deep<=30:=fun p hp=>by have:=k.av p hp; omega
 refine ⟨Z0,fun D hD=>?_⟩;have t0:=Jb hD (.lst []);have GP:=dZ t0;generalize upd H D _=H0 at t0 GP;refine b7 ?_;refine ⟨_,Ja,a,_,Ja,.inr (t0.aH i5),fun A hA=>?_⟩;have t1:=Jb hA (.lst xs);have NF:=dZ t1;have rX:=t1.keep _ _ GP aL;have DA:D ≠ A:=ne_of_none GP hA;have s1:=t0.trans t1;have nA:H A=none:=t0.kS _ hA;generalize upd H0 A _=H1 at t1 NF rX s1;refine b7 ?_;refine ⟨_,Ja,b,_,Ja,.inr (s1.aH hZ),fun B hB=>?_⟩;have t2:=Jb hB (.lst ys);have Bj:=dZ t2;have bj:=t2.keep _ _ rX aL;have hA2:=t2.keep _ _ NF aL;have DB:D ≠ B:=ne_of_none rX hB;have AB:A ≠ B:=ne_of_none NF hB;have s2:=s1.trans t2;have nB:H B=none:=s1.kS _ hB;generalize upd H1 B _=H2 at t2 Bj bj hA2 s2;refine b7 ?_;refine ⟨fun mm σ G=>∃ (F L R:List (Lad × Int)) (fs ls rs:List V),mm=L.length+R.length/\SB [D,A,B] H G/\σ=[some (.ref a),some (.ref b),some (.ref D),some (.ref A),some (.ref B)]/\G D=some (.lst fs)/\G A=some (.lst ls)/\G B=some (.lst rs)/\Bears K G Lad.aC fs F/\Bears K G Lad.aC ls L/\Bears K G Lad.aC rs R/\Lad.mrg l k=Lad.ofPs (F++(Lad.mrg (Lad.ofPs L) (Lad.ofPs R)).ps)/\F.length+L.length+R.length<=9000000/\(∀ p ∈ L,p.1.deep<=30)/\(∀ p ∈ R,p.1.deep<=30),
  ⟨_,[],l.ps,k.ps,[],xs,ys,rfl,s2.nil,rfl,bj,hA2,Bj,.nil,gS.sb s2 Lad.ae,fQ.sb s2 Lad.ae,by rw [List.nil_append,Lad.aE,Lad.aE,Lad.aE],by show 0+_+_<=_; omega,ld,kd⟩,fun mm σ G hG=>?_⟩
 obtain ⟨F,L,R,fs,ls,rs,rfl,s3,rfl,b0,Wx,hB3,hF,hL,hR,Cg,hlen,Ld,Rd⟩:=hG;have fl:=hF.length;have ll:=hL.length;have rl:=hR.length
 -- what is behind the loop
 have fin:L=[]\/R=[]->∀ G2,SB [] G G2->tRet (tCB (fun xs OU Q=>∃ p ys,xs=[V.ref p]/\((SqL K OU p ys/\∀ l,OU l=none->Q (V.ref l) (upd OU l (HO.tup ys)))\/(SqT K OU p ys/\Q (V.ref p) OU))) (tCons (tOp rCat (tOp rCat (tVar 2) (tVar 3)) (tVar 4)) tNil)) { nx:=fun x H'=>Q V.non H',rt:=Q } [some (.ref a),some (.ref b),some (.ref D),some (.ref A),some (.ref B)] G2:=fun Vm G2 u=>by
  have i6:=u.keep _ _ b0 aL;have hA4:=u.keep _ _ Wx aL;have hB4:=u.keep _ _ hB3 aL;refine ⟨_,Ja,_,Ja,D,A,_,_,Ja,Ja,i6,hA4,by omega,fun M hM=>?_⟩;have t5:=Jb hM (.lst (fs++ls));have hM5:=dZ t5;have D4:=t5.keep _ _ hB4 aL;generalize upd G2 M _=G5 at t5 hM5 D4;refine ⟨_,Ja,M,B,_,_,Ja,Ja,hM5,D4,by rw [Yf]; omega,fun N hN=>?_⟩;have t6:=Jb hN (.lst (fs++ls++rs));have GJ:=dZ t6;generalize upd G5 N _=G6 at t6 GJ;refine ⟨N,_,Ja,.inl ⟨SqL.of GJ,fun T nT=>?_⟩⟩;have t7:=Jb nT (.tup (fs++ls++rs));have u7:=((u.trans t5).trans t6).trans t7;refine q (.ref T) _ ((((s3.trans u7.nil).drop hD).drop nA).drop nB) ?_;have e:Lad.mrg l k=Lad.ofPs (F++L++R):=by
   rw [Cg];rcases Vm with h | h
   ·rw [h,show Lad.ofPs ([]:List (Lad × Int))=.nil from rfl,Lad.pN,Lad.aK,Kz]
   ·rw [h,show Lad.ofPs ([]:List (Lad × Int))=.nil from rfl,Lad.pM,Lad.aK,Kz]
  rw [e];exact uD (SqT.of Qt) (((hF.sb u7 Lad.ae).append (hL.sb u7 Lad.ae)).append (hR.sb u7 Lad.ae))
 refine ⟨_,Ja,Z0,fun z0 nz0=>?_⟩;have t4:=Jb nz0 (.lst []);have Mc:=dZ t4;generalize upd G z0 _=G4 at t4 Mc;refine ⟨.list (L.map Lad.aC),.list [],Dp.lst (SqL.of (t4.keep _ _ Wx aL)) (K6 (hL.sb t4 Lad.ae)),Dp.lst (SqL.of Mc) .nil,Lad.j1 Ld,by decide +kernel,_,Ja,?_⟩;cases hLc:L with
 | nil =>
  rw [show (!PyData.eqv (.list (([]:List (Lad × Int)).map Lad.aC)) (.list []))=false by simp [PyData.eqv,PyData.eqvAll]];exact iteF (iteF (fin (.inl hLc) G4 t4))
 | cons p1 L2 =>
 rw [show (!PyData.eqv (.list ((p1::L2).map Lad.aC)) (.list []))=true by simp [PyData.eqv,PyData.eqvAll]];refine iteT ?_;refine ⟨_,Ja,Z0,fun z1 BM=>?_⟩;have t5:=Jb BM (.lst []);have Dz:=dZ t5;have u5:=t4.trans t5;generalize upd G4 z1 _=G5 at t5 Dz u5;have d7:=u5.keep _ _ b0 aL;have GS:=u5.keep _ _ Wx aL;have D4:=u5.keep _ _ hB3 aL;have Jn:=hF.sb u5 Lad.ae;have lZ:=hL.sb u5 Lad.ae;have mK:=hR.sb u5 Lad.ae;refine ⟨.list (R.map Lad.aC),.list [],Dp.lst (SqL.of D4) (K6 mK),Dp.lst (SqL.of Dz) .nil,Lad.j1 Rd,by decide +kernel,_,Ja,?_⟩;cases hRc:R with
 | nil =>
  rw [show (!PyData.eqv (.list (([]:List (Lad × Int)).map Lad.aC)) (.list []))=false by simp [PyData.eqv,PyData.eqvAll]];exact iteF (fin (.inr hRc) G5 u5)
 | cons p2 R2 =>
 rw [show (!PyData.eqv (.list ((p2::R2).map Lad.aC)) (.list []))=true by simp [PyData.eqv,PyData.eqvAll]];refine iteT ⟨_,fun σ' H' h=>h,?_⟩;subst hLc hRc;have s5:SB [D,A,B] H G5:=s3.trans u5.nil;cases lZ with
 | @cons v1 ls2 _ _ Mh lZ =>
 cases mK with
 | @cons v2 pK _ _ Mg mK =>
 obtain ⟨a1,u1,rfl,lN,kP⟩:=jW Mh;obtain ⟨a2,u2,rfl,dS,kO⟩:=jW Mg;obtain ⟨e1,m1⟩:=p1;obtain ⟨e2,m2⟩:=p2;have ed1:e1.deep<=30:=Ld (e1,m1) (bw ..);have ed2:e2.deep<=30:=Rd (e2,m2) (bw ..);have Ld2:∀ p ∈ L2,p.1.deep<=30:=fun p hp=>Ld p (bI _ hp);have Rd2:∀ p ∈ R2,p.1.deep<=30:=fun p hp=>Rd p (bI _ hp);rw [show Lad.ofPs ((e1,m1)::L2)=.cons e1 m1 (Lad.ofPs L2) from rfl,show Lad.ofPs ((e2,m2)::R2)=.cons e2 m2 (Lad.ofPs R2) from rfl,Lad.sW] at Cg;have L8:((e1,m1)::L2).length=L2.length+1:=rfl;have L7:((e2,m2)::R2).length=R2.length+1:=rfl;rw [L8,L7] at hlen;refine ⟨_,Ja,A,_,_,_,Ja,Ja,SqL.of GS,atI_nat (j:=0) rfl,a1,_,_,_,Ja,Ja,lN,atI_nat (j:=0) rfl,_,Ja,B,_,_,_,Ja,Ja,SqL.of D4,atI_nat (j:=0) rfl,a2,_,_,_,Ja,Ja,dS,atI_nat (j:=0) rfl,e1.enc,e2.enc,kP,kO,Lad.aA (by omega),Lad.aA (by omega),_,Ja,?_⟩;rw [Lad.a5];by_cases he:e1=e2
 ·subst he;rw [Ya rfl];rw [if_pos rfl] at Cg;refine iteT ?_;refine ⟨_,Ja,.inl ⟨rfl,_,SqL.of d7⟩,_,Ja,A,_,_,_,Ja,Ja,SqL.of GS,atI_nat (j:=0) rfl,a1,_,_,_,Ja,Ja,lN,atI_nat (j:=0) rfl,?_⟩;have zA:(V.ref a1::ls2).length=ls2.length+1:=rfl;have zB:(V.ref a2::pK).length=pK.length+1:=rfl;refine ⟨_,Ja,.inl ⟨rfl,_,SqL.of GS⟩,A,_,_,0,.ref a1,Ja,Ja,GS,by omega,by omega,by rw [PySem.seqIndex_of (by omega) (by omega)]; rfl,rfl,?_⟩;have t6:=SB.set (ps:=[A]) GS (by simp) (.lst ls2);have GQ:upd G5 A (.lst ls2) A=some (.lst ls2):=Qt;have CI:=t6.keep _ _ D4 (by simpa using fun z:B=A=>AB z.symm);have hV:=t6.keep _ _ d7 (by simpa using DA);rw [show ((V.ref a1::ls2).eraseIdx 0)=ls2 from rfl];generalize upd G5 A _=G6 at t6 GQ CI hV;refine ⟨a1,_,_,_,Ja,Ja,t6.aH lN,atI_nat (j:=1) rfl,?_⟩;refine ⟨_,Ja,.inl ⟨rfl,_,SqL.of CI⟩,B,_,_,0,.ref a2,Ja,Ja,CI,by omega,by omega,by rw [PySem.seqIndex_of (by omega) (by omega)]; rfl,rfl,?_⟩;have t7:=SB.set (ps:=[B]) CI (by simp) (.lst pK);have D0:upd G6 B (.lst pK) B=some (.lst pK):=Qt;have D6:=t7.keep _ _ GQ (by simpa using AB);have uq:=t7.keep _ _ hV (by simpa using DB);rw [show ((V.ref a2::pK).eraseIdx 0)=pK from rfl];generalize upd G6 B _=G7 at t7 D0 D6 uq;refine ⟨a2,_,_,_,Ja,Ja,t7.aH (t6.aH dS),atI_nat (j:=1) rfl,_,_,Ja,Ja,?_⟩;refine ⟨dU,fun T nT=>?_⟩;have t8:=Jb nT (.tup [u1,.int (m1+m2)]);have hT8:=gA (K:=K) t8;have hA8:=t8.keep _ _ D6 aL;have hB8:=t8.keep _ _ D0 aL;have Wu:=t8.keep _ _ uq aL;generalize upd G7 T _=G8 at t8 hT8 hA8 hB8 Wu;have Lu:SB [D,A,B] G5 G8:=((t6.mono (by simp)).trans (t7.mono (by simp))).trans t8.nil;refine ⟨D,_,_,Ja,Ja,Wu,by omega,?_⟩;have t9:=SB.set (ps:=[D]) Wu (by simp) (.lst (fs++[.ref T]));have mc:SB [D,A,B] G5 _:=Lu.trans (t9.mono (by simp));refine ⟨_,?_,F++[(e1,m1+m2)],L2,R2,fs++[.ref T],ls2,pK,Ja,s5.trans mc,Ja,Qt,t9.keep _ _ hA8 (by simpa using fun z:A=D=>DA z.symm),t9.keep _ _ hB8 (by simpa using fun z:B=D=>DB z.symm),(Jn.sb mc Lad.ae).append (.cons (Dp.tup (t9.aH hT8) (.cons (LA.sb kP mc) (.cons (.int _) .nil))) .nil),lZ.sb mc Lad.ae,mK.sb mc Lad.ae,?_,?_,Ld2,Rd2⟩
  ·rw [L8,L7]; omega
  ·rw [Cg,List.append_assoc]; rfl
  ·rw [Yf,Yi]; omega
 ·rw [Qz he];rw [if_neg he] at Cg;refine iteF ?_;refine ⟨_,Ja,A,_,_,_,Ja,Ja,SqL.of GS,atI_nat (j:=0) rfl,a1,_,_,_,Ja,Ja,lN,atI_nat (j:=0) rfl,_,Ja,B,_,_,_,Ja,Ja,SqL.of D4,atI_nat (j:=0) rfl,a2,_,_,_,Ja,Ja,dS,atI_nat (j:=0) rfl,u1,u2,e1,e2,Ja,kP,kO,by omega,by omega,by omega,fun G6 s6=>?_⟩;have zA:(V.ref a1::ls2).length=ls2.length+1:=rfl;have zB:(V.ref a2::pK).length=pK.length+1:=rfl;have GQ:=s6.keep _ _ GS aL;have CI:=s6.keep _ _ D4 aL;have hV:=s6.keep _ _ d7 aL;cases cZ:e1.lt e2 with
  | true =>
   rw [if_pos cZ] at Cg;refine ⟨_,Ja,iteT ?_⟩;refine ⟨_,Ja,.inl ⟨rfl,_,SqL.of hV⟩,_,Ja,.inl ⟨rfl,_,SqL.of CI⟩,B,_,_,0,.ref a2,Ja,Ja,CI,by omega,by omega,by rw [PySem.seqIndex_of (by omega) (by omega)]; rfl,rfl,?_⟩;have t7:=SB.set (ps:=[B]) CI (by simp) (.lst pK);have D0:upd G6 B (.lst pK) B=some (.lst pK):=Qt;have D6:=t7.keep _ _ GQ (by simpa using AB);have uq:=t7.keep _ _ hV (by simpa using DB);rw [show ((V.ref a2::pK).eraseIdx 0)=pK from rfl];generalize upd G6 B _=G7 at t7 D0 D6 uq;have yT:SB [D,A,B] G5 G7:=s6.nil.trans (t7.mono (by simp));refine ⟨D,_,_,Ja,Ja,uq,by omega,?_⟩;have t9:=SB.set (ps:=[D]) uq (by simp) (.lst (fs++[.ref a2]));have mc:SB [D,A,B] G5 _:=yT.trans (t9.mono (by simp));refine ⟨_,?_,F++[(e2,m2)],(e1,m1)::L2,R2,fs++[.ref a2],.ref a1::ls2,pK,Ja,s5.trans mc,Ja,Qt,t9.keep _ _ D6 (by simpa using fun z:A=D=>DA z.symm),t9.keep _ _ D0 (by simpa using fun z:B=D=>DB z.symm),(Jn.sb mc Lad.ae).append (.cons (fc mc _ _ (Lad.ae _) Mg) .nil),.cons (fc mc _ _ (Lad.ae _) Mh) (lZ.sb mc Lad.ae),mK.sb mc Lad.ae,?_,?_,Ld,Rd2⟩
   ·rw [L8,L7]; omega
   ·rw [Cg,List.append_assoc]; rfl
   ·rw [Yf,Yi,L8]; omega
  | false =>
   rw [if_neg (by rw [cZ]; simp)] at Cg;refine ⟨_,Ja,iteF ?_⟩;refine ⟨_,Ja,.inl ⟨rfl,_,SqL.of hV⟩,_,Ja,.inl ⟨rfl,_,SqL.of GQ⟩,A,_,_,0,.ref a1,Ja,Ja,GQ,by omega,by omega,by rw [PySem.seqIndex_of (by omega) (by omega)]; rfl,rfl,?_⟩;have t7:=SB.set (ps:=[A]) GQ (by simp) (.lst ls2);have D6:upd G6 A (.lst ls2) A=some (.lst ls2):=Qt;have D0:=t7.keep _ _ CI (by simpa using fun z:B=A=>AB z.symm);have uq:=t7.keep _ _ hV (by simpa using DA);rw [show ((V.ref a1::ls2).eraseIdx 0)=ls2 from rfl];generalize upd G6 A _=G7 at t7 D6 D0 uq;have yT:SB [D,A,B] G5 G7:=s6.nil.trans (t7.mono (by simp));refine ⟨D,_,_,Ja,Ja,uq,by omega,?_⟩;have t9:=SB.set (ps:=[D]) uq (by simp) (.lst (fs++[.ref a1]));have mc:SB [D,A,B] G5 _:=yT.trans (t9.mono (by simp));refine ⟨_,?_,F++[(e1,m1)],L2,(e2,m2)::R2,fs++[.ref a1],ls2,.ref a2::pK,Ja,s5.trans mc,Ja,Qt,t9.keep _ _ D6 (by simpa using fun z:A=D=>DA z.symm),t9.keep _ _ D0 (by simpa using fun z:B=D=>DB z.symm),(Jn.sb mc Lad.ae).append (.cons (fc mc _ _ (Lad.ae _) Mh) .nil),lZ.sb mc Lad.ae,.cons (fc mc _ _ (Lad.ae _) Mg) (mK.sb mc Lad.ae),?_,?_,Ld2,Rd⟩
   ·rw [L8,L7]; omega
   ·rw [Cg,List.append_assoc]; rfl
   ·rw [Yf,Yi,L7]; omega
abbrev OT:List Str:=[aI,ax,"_law_first","_law_kept","_law_pair"]
theorem sF:FnScope OT [aI,ax] (defScope xb):=fS
theorem zkv (B:BI mg) (tW:Got P w K mg base dj [aI,ax] (41) (KP K)) (hI:Got P w K mg base bD [aI,ax] (40) (yb K 40)) (vQ:Got P w K mg base cG [aI,ax] (41) (QJ K)) (F:Fun K fu fu xb f fd):FnOk P w K mg base CX0 (42) f fd [aI,ax] (ZA K):=by
 refine F.ok sF (fun vs H Q E h=>?_) (fun _ A _ s H vs Q E hr h=>?_)
 ·obtain ⟨v,u,l,k,rfl,_⟩:=h
  rfl
 obtain ⟨v,u,l,k,rfl,hv,hu,hl,hk,hd,hd2,hp,eY,q⟩:=h;have bF:=bC hr;refine ⟨_,Qc (Qr (pt_cmpR (op_eqD (mb hr)) (pv 1) (Ka Qb) (nomark _)) (Qe (Qj (aS tW (Hm hr) rfl (Qa (pv 0) (Qa (Ka (Qa (Ka (Qa (Ka Qb) (Qa Qg Qb))) Qb)) Qb))))) pss_nil)
  (Qc (ps_set (i:=2) sF.nd rfl (.inr rfl) (Qm Ql (Qm Ql (pv 1) Qg (fun _ _=>rfl)) Qg (fun _ _=>rfl)))
  (Qc (ps_set (i:=3) sF.nd rfl (.inl rfl) (pe_callTy call_tuple_of rfl B.tuple boot_tuple (Qa (pe_lc (own:=[("_law_pair",4)]) (g:=(gName 4)) (tt:=(tB (tCall (yb K 40) [] E0 (tCons (tVar 2) (tCons (tOp (rIxT K) (tVar 4) (tC (.int 0))) tNil))))) (te:=(tVar 4)) rfl sF.nd (pi_tup (pv 0)) (blkOk_by (N:=OT) (sc:=defScope xb) (by decide +kernel)) (fun _ _ _ _ _=>(pg_name (i:=4) sF.nd rfl (.inl rfl))) (fun _ _ _ _ _=>(pts_one (Qo (aS hI (Hm hr) rfl (Qa (pv 2) (Qa (Qm Ql (pv 4) Qg (fun _ _=>rfl)) Qb)))))) (fun _ _ _ _ _=>(pv 4))) Qb)))
  (Qe (Qj (aS tW (Hm hr) rfl (Qa (pv 3) (Qa (Ka (Qa (Ka (Qa (aS vQ (Hm hr) rfl (Qa (pv 2) (Qa (Ka (Qa (Ka (Qa (Ka Qb) (Qa Qg Qb))) Qb)) Qb))) (Qa Qg Qb))) Qb)) Qb))))))),?_⟩
 have kY:=sizeLine_eq;obtain ⟨a,xs,rfl,i5,gS⟩:=je hv;obtain ⟨b,ys,rfl,hZ,fQ⟩:=je hu;have xl:=gS.length;have lp:=l.aM;rw [<- Lad.a7] at lp;refine ⟨_,Ja,Z0,fun z nz=>?_⟩;have t1:=Jb nz (.tup []);have vq:=dZ t1;generalize upd H z _=H1 at t1 vq;refine ⟨k.enc,Lad.enc .nil,LA.sb hu t1,uf (SqT.of vq),Lad.aA (by omega),Lad.aA (by decide),_,Ja,?_⟩;rw [Lad.a5];cases k with
 | nil =>
  refine iteT ⟨_,Ja,?_⟩;refine JX (P8 (K:=K) fun x1 H2 s2 tu=>?_);refine ⟨.ref a,x1,l,Lad.b9,Ja,LA.sb (LA.sb hv t1) s2,tu,by omega,by decide,by omega,by decide,fun x H3 s3 hx=>q x H3 ((t1.trans s2).trans s3) (by rw [Lad.mJ hl Lad.R.b9] at hx; exact hx)⟩
 | cons e m r =>
  refine iteF ?_;rw [show (Lad.cons e m r).ps=(e,m)::r.ps from rfl] at fQ;cases fQ with
  | @cons y0 yr _ _ h0 pT =>
  obtain ⟨c,ue,rfl,jQ,hle⟩:=jW h0;have ed:e.deep < (Lad.cons e m r).deep:=Lad.av (.cons e m r) (e,m) (bw ..);have ept:e.parts<=(Lad.cons e m r).parts:=by show e.parts<=1+e.parts+r.parts; omega
  refine ⟨_,Ja,b,_,_,.ref c,Ja,Ja,t1.aH hZ,atI_nat (j:=0) rfl,c,_,_,ue,Ja,Ja,t1.aH jQ,atI_nat (j:=0) rfl,?_⟩;refine ⟨_,Ja,a,Ja,⟨xs,t1.aH i5⟩,fun D nD=>?_⟩;refine oU (walk_tup (xs:=xs)) nD (by omega) (fun i ws H2=>Bears K H2 Lad.aC ws ((l.ps.take i).filter fun p=>e.lt p.1)) .nil (fun H2 s2=>(t1.trans s2).aH i5) (fun _ _ _ _ s h=>h.sb s Lad.ae) (fun Pv i x Hq H2 ws hi s2 y hR Vc fin skip=>?_) (fun ws H3 s3 b0 hR Vc=>?_)
  ·obtain ⟨rfl,ey⟩:=y;obtain ⟨p,ep,gz⟩:=gS.get ey;obtain ⟨ad,ux,rfl,dS,vB⟩:=jW gz;have jD:=t1.trans s2;have pd:=l.av p (Qu ep);refine ⟨rfl,?_⟩;refine ⟨_,Ja,_,Ja,ad,_,_,ux,Ja,Ja,jD.aH dS,atI_nat (j:=0) rfl,ue,ux,e,p.1,Ja,LA.sb hle jD,LA.sb vB jD,by omega,by omega,by omega,fun H4 s4=>⟨_,Ja,?_⟩⟩;have e0:(l.ps.take (i+1)).filter (fun p=>e.lt p.1)=(l.ps.take i).filter (fun p=>e.lt p.1)++(if e.lt p.1=true then [p] else []):=by
    rw [Yg,ep,List.filter_append];cases hc:e.lt p.1 <;> simp [hc]
   cases hc:e.lt p.1 with
   | true =>
    refine iteT ⟨_,Ja,fin _ _ s4 ?_⟩;rw [e0,if_pos hc];exact (hR.sb s4 Lad.ae).append (.cons (fc (jD.trans s4) _ _ (Lad.ae _) gz) .nil)
   | false =>
    refine iteF (skip _ s4 ?_);rw [e0,if_neg (by simp [hc]),Kz];exact hR.sb s4 Lad.ae
  rw [xl,Yh] at hR;have fy:=t1.trans s3;refine ⟨D,ws,Ja,.inl ⟨SqL.of b0,fun kt Bb=>?_⟩⟩;have s5:=Jb Bb (.tup ws);have kept:LA K (upd H3 kt (.tup ws)) (.ref kt) (Lad.ofPs (l.ps.filter fun p=>e.lt p.1)):=uD (SqT.of Qt) (hR.sb s5 Lad.ae);have fB:=fy.trans s5;generalize upd H3 kt _=H5 at s5 kept fB;refine ⟨_,Ja,?_⟩;refine JX (tupI (JX (tupI (JX ⟨_,Ja,JX (P8 (K:=K) fun x1 H6 s6 tu=>?_)⟩))));have eo:=hk.exp;refine ⟨ue,x1,e,Lad.b9,Ja,LA.sb (LA.sb hle fB) s6,tu,by omega,by decide,by omega,by decide,fun x2 H7 s7 om=>?_⟩;have bo:=eo.cI Lad.R.b9;have fo:Lad.R (Lad.ofPs (l.ps.filter fun p=>e.lt p.1)):=by
   obtain ⟨B,hB,hb⟩:=hl;exact ⟨B,hB,Lad.pY hb _⟩
  have b1:=Lad.fC e Lad.b9;have b2:=Lad.eV (n:=29) (l:=e) (k:=Lad.b9) (by omega) (by decide);have b3:=Lad.gU l fun p=>e.lt p.1;have b4:Lad.b9.parts=1:=rfl;refine ⟨dU,fun t8 UK=>?_⟩;have s8:=Jb UK (.tup [x2,.int 1]);have Mm:=dZ s8;generalize upd H7 t8 _=H8 at s8 Mm;refine ⟨Z1,fun t9 UJ=>?_⟩;have s9:=Jb UJ (.tup [.ref t8]);have mc:=((s6.trans s7).trans s8).trans s9;refine ⟨.ref kt,.ref t9,_,.cons (Lad.cI e Lad.b9) 1 .nil,Ja,LA.sb kept mc,KJ (SqT.of Qt) (s9.aH (SqT.of Mm)) (LA.sb om (s8.trans s9)),Yb (Lad.iM _ hd) (by decide),by show max (1+(Lad.cI e Lad.b9).deep) 0<=30; omega,by omega,by show 1+(Lad.cI e Lad.b9).parts+0<=4000000; omega,fun x H' mF hx=>q x H' ((fB.trans mc).trans mF) (by rw [Lad.mJ fo bo.pow] at hx; exact hx)⟩
abbrev zl3:List Str:=[aw,bc,df,"_law_found","_law_once","_law_each","_law_more"]
theorem lC:FnScope zl3 [aw,bc,df] (defScope KA):=fS
theorem zgd (B:BI mg) (XN:Got P w K mg base fu [aI,ax] (42) (ZA K)) (kF:Got P w K mg base bY [aw,bc,aB] (n+43) (C3 K n)) (hI:Got P w K mg base bD [aI,ax] (40) (yb K 40)) (F:Fun K fU fU KA f fd):FnOk P w K mg base CX0 (n+44) f fd [aw,bc,df] (PQ K (n+1)):=by
 refine F.ok lC (fun vs H Q E h=>?_) (fun _ A _ _ H vs Q E hr h=>?_)
 ·obtain ⟨d,e,k,b,ρ,ns,ms,lv,rfl,_⟩:=h
  rfl
 obtain ⟨d,e,k,b,ρ,ns,ms,lv,rfl,hd,de,R,M,hk,hn,q⟩:=h;have bF:=bC hr;refine ⟨_,Qc (Qr (pt_cmp (pc_dnotin (u1 hr) (pv 2) (pv 1))) (Qc (ps_set (i:=3) lC.nd rfl (.inl rfl) (Ka (Qa (Ka (Qa (Ka Qb) (Qa Qg Qb))) Qb)))
  (Qc (ps_for PassesOwn.never rfl (pi_list (Qm Ql (pe_dget (u1 hr) (pv 0) (pv 2) (fun _ _=>rfl)) Qg (fun _ _=>rfl))) (pg_tup rfl (Qi (pg_name (i:=4) lC.nd rfl (.inl rfl)) (Qi (pg_name (i:=5) lC.nd rfl (.inl rfl)) pgs_nil)))
   (Qc (ps_set (i:=6) lC.nd rfl (.inl rfl) (aS XN (Hm hr) rfl (Qa (aS kF (Hm hr) rfl (Qa (pv 0) (Qa (pv 1) (Qa (pv 4) Qb)))) (Qa (aS kF (Hm hr) rfl (Qa (pv 0) (Qa (pv 1) (Qa (pv 5) Qb)))) Qb))))
  (Qe (Qr (Qo (aS hI (Hm hr) rfl (Qa (pv 3) (Qa (pv 6) Qb)))) (Qe (ps_set (i:=3) lC.nd rfl (.inl rfl) (pv 6))) pss_nil))))
  (Qe (ps_dput (u1 hr) (pv 1) (pv 2) (pv 3) rfl)))) pss_nil)
  (Qe (Qj (pe_dget (u1 hr) (pv 1) (pv 2) (fun _ _=>rfl)))),?_⟩
 have n8:=R.len;by_cases hm:k ∈ ms
 ·obtain ⟨u,hu,zG⟩:=M.at_.val hm;refine ⟨_,Ja,_,Ja,e,_,Ja,hu,_,Ja,iteF ?_⟩;exact ⟨_,Ja,_,Ja,e,u,Ja,hu,q u H ms SB.refl M (fun m h=>.inl h) zG⟩
 obtain ⟨kd,eg⟩:=R.get k hk;refine ⟨_,Ja,_,Ja,e,_,Ja,M.at_.none hm,_,Ja,iteT ?_⟩;refine Bz (CU (P8 (K:=K) fun x1 H1 s1 tu=>?_));refine b7 ?_;have Cu:=hd.cH s1;have M1:=M.cH s1;obtain ⟨v,hv,t,l,zs,rfl,ht,hl,hb⟩:=Cu.val eg;have zl:=hb.length;have le:l ≠ e:=fun z=>by
  obtain ⟨aU,h⟩:=M1.IW;rw [z,h] at hl; cases hl
 have nE:∀ H2,SB [e] H1 H2->vR K H2 d b:=fun H2 s2=>Cu.sb s2 (by simpa using de) (by obtain ⟨aU,h⟩:=M1.IW; exact kE.one h);refine ⟨_,Ja,_,Ja,d,_,Ja,hv,t,_,_,_,Ja,Ja,ht,atI_nat (j:=1) rfl,l,Ja,⟨zs,SqL.of hl⟩,?_⟩;refine for_it (walk_list (xs:=zs)) (fun i σ H2=>SB [e] H1 H2/\∃ (f:V) (wu:List Str) (o4 o5 o6:Option V),σ=[some (.ref d),some (.ref e),some (.str k),some f,o4,o5,o6]/\Memo K H2 e ρ ns wu/\(∀ m ∈ wu,m ∈ ms\/lv m < lv k)/\LA K H2 f (Lad.eU Lad.b9 ((kd.rs.take i).map (fh b ρ))))
  ⟨SB.refl,x1,ms,none,none,none,rfl,M1,fun m h=>.inl h,tu⟩ (fun i σ H2 hi h=>h.1.fG (by simpa using le) (SqL.of hl)) (fun i x σ H2' H2 hi h y=>?_) (fun σ H2 h=>?_)
 ·obtain ⟨s2,f,wu,o4,o5,o6,rfl,M2,DI,hf⟩:=h;obtain ⟨rfl,ey⟩:=y;obtain ⟨r,er,Ca⟩:=hb.get ey;have rm:=Qu er;obtain ⟨⟨f1,g1⟩,f2,g2⟩:=R.rl k hk kd eg r rm;obtain ⟨iD,LB,Lz⟩:=R.nm k hk kd eg r rm;have dwn:=R.down k hk kd eg r rm;have rp:=iD.2.2;have Ul:=oL r.1;have Uk:=oL r.2;cases fc s2 _ _ (Ru.af _) Ca with
  | @tup ad AW _ wD hda =>
  cases hda with
  | cons MP hda =>
  cases hda with
  | cons Gm hda =>
  cases hda;have MP:GA K _ _ r.1:=MP;have Gm:GA K _ _ r.2:=Gm;refine ⟨ad,_,Ja,wD,Ja,_,_,Ja,_,_,Ja,Ja,?_⟩;refine ⟨_,Ja,_,Ja,_,Ja,d,e,_,b,ρ,ns,wu,lv,r.1,1000000001,lv k,Ja,nE _ s2,de,R,M2,⟨MP,iD.1,f1,by omega,by omega⟩,fun x hx=>dwn x (List.mem_append.mpr (.inl hx)),by omega,fun x2 H3 UN s3 M3 h3 om=>?_⟩;refine ⟨_,Ja,_,Ja,_,Ja,d,e,_,b,ρ,ns,UN,lv,r.2,1000000001,lv k,Ja,nE _ (s2.trans s3),de,R,M3,⟨Gm.sb s3,iD.2.1,f2,by omega,by omega⟩,fun x hx=>dwn x (List.mem_append.mpr (.inr hx)),by omega,fun x3 H4 IU s4 M4 h4 yh=>?_⟩;have R1:=Gr.my (b:=b) R.toGoods iD.1 LB;have R2:=Gr.my (b:=b) R.toGoods iD.2.1 Lz;have d1:=g1.deep;have d2:=g2.deep;have p1:=g1.parts;have p2:=g2.parts;refine ⟨x2,x3,_,_,Ja,om.sb s4,yh,R1,R2,by omega,by omega,by omega,by omega,fun x4 H5 s5 yg=>?_⟩;refine b7 ?_;have TY:=(s3.trans s4).trans s5.nil;have mem:∀ m ∈ IU,m ∈ ms\/lv m < lv k:=fun m Vt=>by
   rcases h4 m Vt with z | z
   ·rcases h3 m z with z | z
    ·exact DI m z
    ·exact .inr z
   ·exact .inr z
  have dm:(Lad.eU Lad.b9 ((kd.rs.take i).map (fh b ρ))).deep<=30:=by
   rcases Qv (Lad.gF ((kd.rs.take i).map (fh b ρ)) Lad.b9) with z | z
   ·rw [z]; decide
   ·obtain ⟨r',Vj,e'⟩:=Qx z;rw [<- e'];obtain ⟨⟨_,g1⟩,_,g2⟩:=R.rl k hk kd eg r' (List.mem_of_mem_take Vj);exact Lad.kB (n:=30) g1.deep g2.deep (by decide)
  have da:((Gr.rk b ρ r.1).oO (Gr.rk b ρ r.2)).deep<=30:=Lad.kB (n:=30) g1.deep g2.deep (by decide);have step:Lad.eU Lad.b9 ((kd.rs.take (i+1)).map (fh b ρ))=if (Lad.eU Lad.b9 ((kd.rs.take i).map (fh b ρ))).lt (fh b ρ r)=true then fh b ρ r else Lad.eU Lad.b9 ((kd.rs.take i).map (fh b ρ)):=by
   rw [Yg,er,Yj];exact Lad.xC _ _ _
  refine ⟨_,Ja,_,Ja,f,x4,_,_,Ja,hf.sb TY,yg,by omega,by omega,by omega,fun H6 s6=>⟨_,Ja,?_⟩⟩;have IM:=(s2.trans TY).trans s6.nil;by_cases cZ:(Lad.eU Lad.b9 ((kd.rs.take i).map (fh b ρ))).lt (fh b ρ r)=true
  ·have lO:(Lad.eU Lad.b9 ((kd.rs.take i).map (fh b ρ))).lt ((Gr.rk b ρ r.1).oO (Gr.rk b ρ r.2))=true:=cZ;rw [lO];refine iteT ⟨_,Ja,b7 ?_⟩;refine ⟨IM,x4,IU,_,_,_,Ja,(M4.cH s5).cH s6,mem,?_⟩;rw [step,if_pos cZ];exact yg.sb s6
  ·have lO:(Lad.eU Lad.b9 ((kd.rs.take i).map (fh b ρ))).lt ((Gr.rk b ρ r.1).oO (Gr.rk b ρ r.2))=false:=by
    have z:=cZ;rw [Bool.not_eq_true] at z;exact z
   rw [lO];refine iteF ?_;refine ⟨IM,f,IU,_,_,_,Ja,(M4.cH s5).cH s6,mem,?_⟩;rw [step,if_neg cZ];exact (hf.sb TY).sb s6
 ·obtain ⟨s2,f,wu,o4,o5,o6,rfl,M2,DI,hf⟩:=h;rw [zl,Yh,<- R.own k hk kd eg] at hf;have rB:k ∉ wu:=fun z=>by
   rcases DI k z with h | h
   ·exact hm h
   ·omega
  obtain ⟨H3,FZ,s3,M3⟩:=M2.put n8 hk rB hf;refine ⟨_,Ja,_,Ja,_,Ja,e,H3,Ja,FZ,?_⟩;obtain ⟨u,hu,zG⟩:=M3.at_.val (n:=k) (by simp);refine ⟨_,Ja,_,Ja,e,u,Ja,hu,q u H3 _ ((s1.nil.trans s2).trans s3) M3 (fun m h=>?_) zG⟩;rcases Qw h with z | z
  ·rcases DI m z with z | z
   ·exact .inl z
   ·exact .inr (by omega)
  ·rw [Qy z]; exact .inr (Yc _)
end
theorem z9h (qs:List (Tr × Int)) (p:Tr × Int) (x:Lad):Lad.S (Gr.rk b ρ (Gr.ofPs (qs++[p]))) x=Lad.S (Gr.rk b ρ (Gr.ofPs qs)) x+Lad.S (Lad.bM (Gr.du b ρ p.1) p.2) x:=by
 rw [Gr.sO,Gr.sO,Gr.aK,Gr.aK,Gr.lS,Gr.lS,Yj,Yj,List.sum_append];simp
section
variable {P:Program} {w:World} {K:Qn} {mg:Str->Option Value} {base:Heap} {f:Addr} {fd:FuncData}
abbrev Yn:List Str:=[aw,bc,aB,"_law_found","_law_kind","_law_inner",aQ,"_law_here","_law_held","_law_power","_law_so"]
theorem eH:FnScope Yn [aw,bc,aB] (defScope HM):=fS
theorem zht (B:BI mg) (Pk:Got P w K mg base fU [aw,bc,df] (n+43) (PQ K n)) (kF:Got P w K mg base bY [aw,bc,aB] (n+43) (C3 K n)) (vQ:Got P w K mg base cG [aI,ax] (41) (QJ K)) (tW:Got P w K mg base dj [aI,ax] (41) (KP K)) (F:Fun K bY bY HM f fd):FnOk P w K mg base CX0 (n+44) f fd [aw,bc,aB] (C3 K (n+1)):=by
 refine F.ok eH (fun vs H Q E h=>?_) (fun _ A _ s H vs Q E hr h=>?_)
 ·obtain ⟨d,e,u,b,ρ,ns,ms,lv,g,C,c,rfl,_⟩:=h
  rfl
 obtain ⟨d,e,u,b,ρ,ns,ms,lv,g,C,c,rfl,hd,de,R,M,⟨hg,RX,fit,gd,gp⟩,low,hn,q⟩:=h;have bF:=bC hr;refine ⟨_,Qc (ps_set (i:=3) eH.nd rfl (.inl rfl) (Ka Qb))
  (Qc (ps_for PassesOwn.never rfl (pi_tup (pv 2)) (pg_tup rfl (Qi (pg_tup rfl (Qi (pg_name (i:=4) eH.nd rfl (.inl rfl)) (Qi (pg_name (i:=5) eH.nd rfl (.inl rfl)) pgs_nil))) (Qi (pg_name (i:=6) eH.nd rfl (.inr rfl)) pgs_nil)))
   (Qc (ps_set (i:=7) eH.nd rfl (.inl rfl) (aS Pk (Hm hr) rfl (Qa (pv 0) (Qa (pv 1) (Qa (pv 4) Qb)))))
  (Qc (ps_set (i:=8) eH.nd rfl (.inl rfl) (aS kF (Hm hr) rfl (Qa (pv 0) (Qa (pv 1) (Qa (pv 5) Qb)))))
  (Qc (Qr (PW.pt (Kl (pt_cmpR (op_neD (mb hr)) (pv 8) (Ka Qb) (nomark _)) (pw_and1 (Qo (Qm Ql (pe_dget (u1 hr) (pv 0) (pv 4) (fun _ _=>rfl)) Qg (fun _ _=>rfl)))))) (Qe (ps_set (i:=7) eH.nd rfl (.inl rfl) (Ka (Qa (Ka (Qa (aS vQ (Hm hr) rfl (Qa (Qm Ql (Qm Ql (pv 7) Qg (fun _ _=>rfl)) Qg (fun _ _=>rfl)) (Qa (pv 8) Qb))) (Qa Qg Qb))) Qb)))) (Qe (ps_set (i:=7) eH.nd rfl (.inl rfl) (aS vQ (Hm hr) rfl (Qa (pv 7) (Qa (pv 8) Qb))))))
  (Qe (ps_set (i:=3) eH.nd rfl (.inl rfl) (aS tW (Hm hr) rfl (Qa (pv 3) (Qa (pe_callTy call_tuple_of rfl B.tuple boot_tuple (Qa (pe_lc (own:=[("_law_power",9),("_law_so",10)]) (g:=(gTup K 2 (gCons (gName 9) (gCons (gName 10) gNil)))) (tt:=tYes) (te:=(tTup (tCons (tVar 9) (tCons (tOp (rI CMulW fun i j=>.int (i*j)) (tVar 10) (tVar 6)) tNil)))) rfl eH.nd (pi_tup (pv 7)) (blkOk_by (N:=Yn) (sc:=defScope HM) (by decide +kernel)) (fun _ _ _ _ _=>(pg_tup rfl (Qi (pg_name (i:=9) eH.nd rfl (.inl rfl)) (Qi (pg_name (i:=10) eH.nd rfl (.inl rfl)) pgs_nil)))) (fun _ _ _ _ _=>pts_nil) (fun _ _ _ _ _=>(Ka (Qa (pv 9) (Qa (pe_op op_mulW (pv 10) (pv 6)) Qb))))) Qb)) Qb)))))))))
  (Qe (Qj (pv 3)))),?_⟩
 have kY:=sizeLine_eq;obtain ⟨a,xs,rfl,hs,hb⟩:=vX hg;have xl:=hb.length;have rG:=fit.named;refine ⟨Z0,fun z nz=>?_⟩;have t1:=Jb nz (.tup []);have vq:LA K (upd H z (.tup [])) (.ref z) .nil:=uf (SqT.of Qt);generalize upd H z _=H1 at t1 vq;have nE:∀ H2,SB [e] H H2->vR K H2 d b:=fun H2 s2=>hd.sb s2 (by simpa using de) (by obtain ⟨aU,h⟩:=M.IW; exact kE.one h);have tk:∀ i,(Gr.ofPs (g.ps.take i)).Ok C/\Gr.Named ns (Gr.ofPs (g.ps.take i)):=fun i=>by
  obtain ⟨h1,h2⟩:=Gr.aV.mp RX;refine ⟨Gr.eF.mpr ⟨fun p hp=>h1 p (List.mem_of_mem_take hp),h2.sublist (List.take_sublist _ _)⟩,Gr.aJ.mpr fun p hp=>?_⟩;rw [Gr.aK] at hp;exact Gr.aJ.mp rG p (List.mem_of_mem_take hp)
 have Xz:∀ i,Lad.R (Gr.rk b ρ (Gr.ofPs (g.ps.take i))):=fun i=>Gr.my (b:=b) R.toGoods (tk i).1 (tk i).2;have sm:=fit.sum;have ptk:∀ i,(Gr.rk b ρ (Gr.ofPs (g.ps.take i))).parts<=900000:=fun i=>by
  rw [Gr.sO,Gr.aK];refine Yb (Lad.cV _) (Yb ?_ sm);rw [Gr.jE,List.map_map,List.map_map];have e1:g.ps=g.ps.take i++g.ps.drop i:=(List.take_append_drop i g.ps).symm
  conv=>rhs; rw [e1,Yj,List.sum_append]
  omega
 have dtk:∀ i,(Gr.rk b ρ (Gr.ofPs (g.ps.take i))).deep<=30:=fun i=>by
  rw [Gr.sO,Gr.aK];refine Lad.dP fun l hl=>?_;obtain ⟨p,hp,rfl⟩:=Qx hl;exact Lad.iw _ (fit.at p (List.mem_of_mem_take hp)).1.2.2.2.2.2.1.deep
 refine b7 ?_;refine ⟨_,Ja,a,Ja,⟨xs,t1.aH hs⟩,?_⟩;refine for_it (walk_tup (xs:=xs)) (fun i σ H2=>SB [e] H H2/\∃ (f:V) (wu:List Str) (o4 o5 o6 o7 o8 o9 yf:Option V),σ=[some (.ref d),some (.ref e),some (.ref a),some f,o4,o5,o6,o7,o8,o9,yf]/\Memo K H2 e ρ ns wu/\(∀ m ∈ wu,m ∈ ms\/lv m < c)/\LA K H2 f (Gr.rk b ρ (Gr.ofPs (g.ps.take i))))
  ⟨t1.nil,_,ms,none,none,none,none,none,none,none,rfl,M.cH t1,fun m h=>.inl h,by rw [List.take_zero,show Gr.ofPs []=.nil from rfl,Gr.lF]; exact vq⟩ (fun i σ H2 hi h=>h.1.aH hs) (fun i x σ H2' H2 hi h y=>?_) (fun σ H2 h=>?_)
 ·obtain ⟨s2,f,wu,o4,o5,o6,o7,o8,o9,yf,rfl,M2,DI,hf⟩:=h;obtain ⟨rfl,ey⟩:=y;obtain ⟨p,ep,gz⟩:=hb.get ey;have pm:=Qu ep;have pd:=g.av p pm;have pp:=g.bE p pm;obtain ⟨n1,o1,m1,m2⟩:=Gr.cj RX pm;obtain ⟨⟨f1,f2,f3,f4,f5,f6,f7,f8⟩,f9⟩:=fit.at p pm;obtain ⟨k1,k2⟩:=Gr.aJ.mp rG p pm;obtain ⟨ad,td,ux,rfl,dS,rT,jR,FJ⟩:=rY gz;have lk:=low p (Gr.vi pm);refine ⟨ad,_,Ja,s2.aH dS,Ja,_,_,Ja,td,_,Ja,s2.aH rT,Ja,_,_,Ja,_,_,Ja,Ja,_,_,Ja,Ja,?_⟩;refine ⟨_,Ja,_,Ja,_,Ja,d,e,p.1.1,b,ρ,ns,wu,lv,Ja,nE _ s2,de,R,M2,k1,by omega,fun x1 H3 UN s3 M3 h3 tu=>?_⟩;refine b7 ?_;have xt:=s2.trans s3;refine ⟨_,Ja,_,Ja,_,Ja,d,e,ux,b,ρ,ns,UN,lv,p.1.2,C,c,Ja,nE _ xt,de,R,M3,⟨GA.sb jR xt,o1,f9,by omega,by omega⟩,fun x hx=>low x (Gr.uF pm hx),by omega,fun x2 H4 IU s4 M4 h4 om=>?_⟩;refine b7 ?_;have QX:=xt.trans s4;have mem:∀ m ∈ IU,m ∈ ms\/lv m < c:=fun m Vt=>by
   rcases h4 m Vt with z | z
   ·rcases h3 m z with z | z
    ·exact DI m z
    ·exact .inr (by omega)
   ·exact .inr z
  have B7:=tu.sb s4;obtain ⟨kd,eg⟩:=R.get p.1.1 k1;have vr:b.wide p.1.1=kd.w:=Bk.mT eg;refine AS (fun σ' G=>∃ x3:V,σ'=[some (.ref d),some (.ref e),some (.ref a),some f,some (.str p.1.1),some ux,some (.int p.2),some x3,some x2,o9,yf]/\SB [] H4 G/\LA K G x3 (Gr.du b ρ p.1)) (fun nx ji=>?_) (fun σ' G h=>?_)
  ·refine ⟨_,Ja,Z0,fun z5 IQ=>?_⟩;have t5:=Jb IQ (.tup []);have Dz:LA K (upd H4 z5 (.tup [])) (.ref z5) .nil:=uf (SqT.of Qt);generalize upd H4 z5 _=H5 at t5 Dz;refine ⟨(Gr.rk b ρ p.1.2).enc,Lad.enc .nil,LA.sb om t5,Dz,Lad.aA (Yb f5.deep (by decide)),Lad.aA (by decide),_,Ja,?_⟩;rw [Lad.a5];by_cases h0:Gr.rk b ρ p.1.2=.nil
   ·rw [Ya h0];refine iteF ?_;refine ⟨_,Ja,_,Ja,x1,x2,ρ p.1.1,Gr.rk b ρ p.1.2,Ja,B7.sb t5,om.sb t5,Yb f4.deep (by decide),Yb f5.deep (by decide),Yb f4.parts (by decide),Yb f5.parts (by decide),fun x3 H6 s6 yh=>?_⟩;refine b7 ?_;refine ji _ _ ⟨x3,Ja,t5.trans s6,?_⟩;have:Gr.du b ρ p.1=(ρ p.1.1).cI (Gr.rk b ρ p.1.2):=by
     show dJ _ _ _=_;rw [show Gr.rk b ρ p.1.2=.nil from h0,Lad.dC];exact Lad.qS f3
    rw [this]; exact yh
   ·rw [Qz h0];refine iteT ?_;obtain ⟨vv,Mf,t,l,zs,rfl,ht,hl,fQ⟩:=(nE _ (QX.trans t5.nil)).val eg;refine ⟨_,Ja,_,Ja,d,_,Ja,Mf,t,_,_,_,Ja,Ja,ht,atI_nat (j:=0) rfl,_,Ja,?_⟩;cases hk:kd.w with
    | false =>
     refine iteF ?_;refine ⟨_,Ja,_,Ja,x1,x2,ρ p.1.1,Gr.rk b ρ p.1.2,Ja,B7.sb t5,om.sb t5,Yb f4.deep (by decide),Yb f5.deep (by decide),Yb f4.parts (by decide),Yb f5.parts (by decide),fun x3 H6 s6 yh=>?_⟩;refine b7 ?_;refine ji _ _ ⟨x3,Ja,t5.trans s6,?_⟩;have:Gr.du b ρ p.1=(ρ p.1.1).cI (Gr.rk b ρ p.1.2):=by
      show dJ _ _ _=_;unfold dJ;rw [vr,hk]; rfl
     rw [this]; exact yh
    | true =>
     refine iteT ?_;have fd:=f4.deep;have fp:=f4.parts;have fl:Gr.du b ρ p.1=Lad.spd (ρ p.1.1) (Gr.rk b ρ p.1.2):=by
      show dJ _ _ _=_;unfold dJ;rw [vr,hk]; rfl
     cases ho:ρ p.1.1 with
     | nil=>exact absurd ho f3
     | cons e0 m0 r0 =>
     rw [ho] at B7 fd fp fl;rw [Lad.gD h0] at fl;obtain ⟨ha,DD,rfl,rS,Nc⟩:=je (B7.sb t5);rw [show (Lad.cons e0 m0 r0).ps=(e0,m0)::r0.ps from rfl] at Nc;cases Nc with
     | @cons y0 yr _ _ hh0 pT =>
     obtain ⟨cc,ue,rfl,jQ,hle⟩:=jW hh0;have ed:e0.deep < (Lad.cons e0 m0 r0).deep:=Lad.av (.cons e0 m0 r0) (e0,m0) (bw ..);have ept:e0.parts<=(Lad.cons e0 m0 r0).parts:=by show e0.parts<=1+e0.parts+r0.parts; omega
     refine ⟨_,Ja,ha,_,_,.ref cc,Ja,Ja,rS,atI_nat (j:=0) rfl,cc,_,_,ue,Ja,Ja,jQ,atI_nat (j:=0) rfl,_,Ja,ue,x2,e0,Gr.rk b ρ p.1.2,Ja,hle,om.sb t5,by omega,Yb f5.deep (by decide),by omega,Yb f5.parts (by decide),fun x3 H6 s6 yh=>?_⟩;refine ⟨dU,fun t8 UK=>?_⟩;have s8:=Jb UK (.tup [x3,.int 1]);have Mm:=dZ s8;generalize upd H6 t8 _=H8 at s8 Mm;refine ⟨Z1,fun t9 UJ=>?_⟩;have s9:=Jb UJ (.tup [.ref t8]);refine b7 ?_;refine ji _ _ ⟨.ref t9,Ja,((t5.trans s6).trans s8).trans s9,?_⟩;rw [fl];exact KJ (SqT.of Qt) (s9.aH (SqT.of Mm)) (LA.sb yh (s8.trans s9))
  ·obtain ⟨x3,rfl,s5,yh⟩:=h;have BC:=QX.trans s5.nil;obtain ⟨ha,DD,rfl,rS,Nc⟩:=je yh;have Gb:=Nc.length;have lp:=(Gr.du b ρ p.1).aM;rw [<- Lad.a7] at lp;have fp:=f6.parts;refine ⟨_,Ja,_,Ja,ha,Ja,⟨DD,rS⟩,fun D nD=>?_⟩;refine oU (walk_tup (xs:=DD)) nD (by omega) (fun j ws H6=>Bears K H6 Lad.aC ws (((Gr.du b ρ p.1).ps.take j).map fun q:Lad × Int=>(q.1,q.2*p.2))) .nil (fun H6 s6=>s6.aH rS) (fun _ _ _ _ s h=>h.sb s Lad.ae) (fun Pv j y Hq H6 ws hj s6 yy hR Va fin skip=>?_) (fun ws H6 s6 hV hR Va=>?_)
   ·obtain ⟨rfl,WV⟩:=yy;obtain ⟨r,er,Ca⟩:=Nc.get WV;have rm:=Qu er;obtain ⟨ar,ur,rfl,Mo,hlr⟩:=jW Ca;obtain ⟨UI,num1⟩:=f6.num r rm;have cm:CMulW r.2 p.2:=by
     have e1:=PZ (x:=r.2) (a:=400000) (b:=400000) (Gr.i3 UI num1) (Yc _) (by decide);have e2:=PZ (x:=p.2) (a:=400000) (b:=400000) (Gr.i3 f7 f8) (Yc _) (by decide);unfold CMulW;omega
    refine ⟨ar,_,Ja,s6.aH Mo,Ja,_,_,Ja,_,_,Ja,Ja,Ja,?_⟩;refine ⟨_,Ja,_,Ja,_,Ja,_,_,Ja,Ja,cm,dU,fun T nT=>?_⟩;have t7:=Jb nT (.tup [ur,.int (r.2*p.2)]);refine fin _ _ t7 ?_;rw [Yg,er,Yj];exact (hR.sb t7 Lad.ae).append (.cons (Dp.tup (SqT.of Qt) (.cons ((LA.sb hlr s6).sb t7) (.cons (.int _) .nil))) .nil)
   ·rw [Gb,Yh] at hR;refine ⟨D,ws,Ja,.inl ⟨SqL.of hV,fun kt Bb=>?_⟩⟩;have t7:=Jb Bb (.tup ws);have Mz:LA K (upd H6 kt (.tup ws)) (.ref kt) (Lad.bM (Gr.du b ρ p.1) p.2):=by
     have z:=uD (SqT.of Qt) (hR.sb t7 Lad.ae);have:Lad.bM (Gr.du b ρ p.1) p.2=Lad.ofPs ((Gr.du b ρ p.1).ps.map fun q:Lad × Int=>(q.1,q.2*p.2)):=by
      unfold Lad.bM;rw [if_neg (by omega)]
     rw [this]; exact z
    generalize upd H6 kt _=H7 at t7 Mz;have yT:=s6.trans t7;have pt:=Lad.iV (Gr.du b ρ p.1) p.2;have dt:=Lad.iw (n:=30) p.2 f6.deep;have pi:=ptk i;have di:=dtk i;refine ⟨f,.ref kt,_,_,Ja,((hf.sb (s3.trans s4)).sb s5).sb yT,Mz,by omega,by omega,by omega,by omega,fun x4 H8 s8 yg=>?_⟩;refine b7 ?_;refine ⟨(BC.trans yT.nil).trans s8.nil,x4,IU,_,_,_,_,_,_,_,Ja,((M4.cH s5).cH yT).cH s8,mem,?_⟩;have Rt:Lad.R (Gr.du b ρ p.1):=Gr.jq R.toGoods k1 o1 k2;rw [Lad.mJ (Xz i) (Rt.bM (by omega))] at yg;have e1:Gr.rk b ρ (Gr.ofPs (g.ps.take (i+1)))=(Gr.rk b ρ (Gr.ofPs (g.ps.take i))).cu (Lad.bM (Gr.du b ρ p.1) p.2):=by
     refine Lad.R.ext (Xz (i+1)) ((Xz i).cu (Rt.bM (by omega))) fun x=>?_;rw [Lad.dz,Yg,ep];exact z9h _ _ x
    rw [e1]; exact yg
 ·obtain ⟨s2,f,wu,o4,o5,o6,o7,o8,o9,yf,rfl,M2,DI,hf⟩:=h;rw [xl,Yh,Gr.aE] at hf;exact ⟨_,Ja,q f H2 wu s2 M2 DI hf⟩
abbrev zex:List Str:=[dX,"_law_found","_law_tree",aQ]
theorem cK:FnScope zex [dX] (defScope JF):=fS
theorem z6s (B:BI mg) (F:Fun K bL bL JF f fd):FnOk P w K mg base CX0 1 f fd [dX] (KU K):=by
 refine F.ok cK (fun vs H Q E h=>?_) (fun _ A _ _ H vs Q E hr h=>?_)
 ·obtain ⟨a,xs,bs,rfl,_⟩:=h
  rfl
 obtain ⟨a,xs,as,rfl,hs,gS,hl,⟨C,ho⟩,q⟩:=h;have bF:=bC hr;refine ⟨_,Qc (ps_set (i:=1) cK.nd rfl (.inl rfl) (pe_lst Qb))
  (Qc (ps_for PassesOwn.never rfl (pi_list (Qs (zah Gr.aC (by show A.units+3+110 < cLine; omega)) rfl B.sorted (by decide +kernel) (Qa (pv 0) Qb))) (pg_tup rfl (Qi (pg_name (i:=2) cK.nd rfl (.inl rfl)) (Qi (pg_name (i:=3) cK.nd rfl (.inl rfl)) pgs_nil)))
   (Qc (Qr (PW.pt (Kl (pt_cmpR (op_neD (mb hr)) (pv 1) (pe_lst Qb) (nomark _)) (pw_and1 (pt_cmpR (op_eqD (mb hr)) (Qm Ql (Qm ix_list (pv 1) (pe_un un_neg Qg) (fun _ _=>rfl)) Qg (fun _ _=>rfl)) (pv 2) (nomark _)))))
    (Qe (ps_set (i:=3) cK.nd rfl (.inl rfl) (pe_op Ko (pv 3) (Qm Ql (pe_bm0 Ki PySem.F.slot_list_pop PySem.F.type_list_pop mt_pop (pv 1)) Qg (fun _ _=>rfl))))) pss_nil)
   (Qe (Kf (Kn Ki PySem.F.slot_list_append PySem.F.type_list_append mt_append (pv 1) (Qa (Ka (Qa (pv 2) (Qa (pv 3) Qb))) Qb))))))
  (Qe (Qj (pe_callTy call_tuple_of rfl B.tuple boot_tuple (Qa (pv 1) Qb))))),?_⟩
 refine ⟨(Z0),fun D hD=>?_⟩;have t0:=Jb hD (.lst []);have GP:(upd H D (.lst [])) D=some (.lst []):=Qt;generalize hH0:upd H D (.lst [])=H0 at t0 GP;have I4:SqL K H0 a xs\/SqT K H0 a xs:=hs.imp (fun h=>t0.fG aL h) fun h=>t0.aH h;refine ⟨_,Ja,a,_,as,Ja,I4,gS.sb t0 Gr.aj,Gr.nH _,Gr.fW _,by omega,fun p hp=>?_,fun p1 zs g9 hz=>?_⟩
 ·have:=Gr.eL p;have:=(ho p hp).2.2;omega
 have s1:=Jb g9 (.lst zs);have zE:Bears K (upd H0 p1 (.lst zs)) Gr.aC zs (sD Gr.aC as):=hz.sb s1 Gr.aj;have b0:=s1.keep _ _ GP aL;have vC:SqL K (upd H0 p1 (.lst zs)) p1 zs:=SqL.of Qt;have p1D:p1 ≠ D:=fun z=>by subst z; rw [GP] at g9; cases g9
 generalize hH3:upd H0 p1 (.lst zs)=H3 at s1 zE b0 vC;clear hz;generalize vE:sD Gr.aC as=bs at zE;have bok:∀ p ∈ bs,dN p.1.1/\p.1.2.Ok C/\p.1.2.deep<=18:=by
  intro p hp;rw [<- vE] at hp;exact ho p ((ER as).mem_iff.mp hp)
 have ygh:bs.length<=1000:=by rw [<- vE,(ER as).length_eq]; exact hl
 have zl:=zE.length;refine ⟨p1,Ja,⟨zs,vC⟩,?_⟩;refine for_list (K:=K) (a:=p1) (xs:=zs) (fun i σ H2=>SB [D] H3 H2/\∃ acc o2 o3,σ=[some (.ref a),some (.ref D),o2,o3]/\H2 D=some (.lst acc)/\Bears K H2 Gr.aC acc (jn (bs.take i))) ⟨SB.refl,[],none,none,Ja,b0,.nil⟩ (fun i σ H2 hi h2=>h2.1.fG (by simpa using p1D) vC) (fun i x σ H2 hx h2=>?_) (fun σ H2 h2=>?_)
 ·obtain ⟨s2,acc,o2,o3,rfl,bj,dv⟩:=h2;obtain ⟨p,ep,gz⟩:=zE.get hx;have pm:=Qu ep;obtain ⟨ad,tx,ux,rfl,rS,_,_,Cs⟩:=rY gz;have al:=dv.length;have jl:=z7r (bs.take i);rw [Kx] at jl;rw [Zb bs i p ep];have zN:Dp K H2 (.ref tx) (Gr.aO p.1):=fc s2 _ _ (Gr.a6 _) Cs;refine ⟨ad,_,Ja,s2.aH rS,Ja,_,_,Ja,_,_,Ja,Ja,?_⟩;refine ⟨_,Ja,(Z0),fun e0 Bf=>?_⟩;have t3:=SB.new (ps:=[D]) Bf (.lst []);have b0:(upd H2 e0 (.lst [])) D=some (.lst acc):=by rw [upd_ne (ne_of_none bj Bf)]; exact bj
  have jd:∀ p ∈ jn (bs.take i),dN p.1.1/\p.1.2.Ok C/\p.1.2.deep<=18:=by
   intro p hp;obtain ⟨q2,wF,e2⟩:=EM _ p hp;rw [<- e2]; exact bok q2 (List.mem_of_mem_take wF)
  have gT:=dv.sb t3 Gr.aj;have Gv:=fc t3 _ _ (Gr.a6 _) zN;have MW:(upd H2 e0 (.lst [])) e0=some (.lst []):=Qt;generalize hH4:upd H2 e0 (.lst [])=H4 at t3 b0 gT Gv MW;refine ⟨.list ((jn (bs.take i)).map Gr.aC),.list [],Dp.lst (SqL.of b0) gT.dp,Dp.lst (SqL.of MW) .nil,Gr.sE ⟨C,jd⟩,by decide +kernel,_,Ja,?_⟩;have QX:=s2.trans t3;have app:∀ (us:List V) (js:List (Tr × Int)) (m:Int) (H5:Hp),SB [D] H4 H5->H5 D=some (.lst us)->Bears K H5 Gr.aC us js->us.length<=1000->fw (jn (bs.take i)) p=js++[(p.1,m)] ->
    tDrop (tBM K "list" rAppend (tVar 1) (tCons (tTup (tCons (tVar 2) (tCons (tVar 3) tNil))) tNil)) { nx:=fun σ H2=>SB [D] H3 H2/\∃ acc o2 o3,σ=[some (.ref a),some (.ref D),o2,o3]/\H2 D=some (.lst acc)/\Bears K H2 Gr.aC acc (fw (jn (bs.take i)) p),rt:=Q } [some (.ref a),some (.ref D),some (.ref tx),some (.int m)] H5:=by
   intro us js m H5 s5 d7 zR zG e;rw [e];refine ⟨_,Ja,.inl ⟨rfl,_,SqL.of d7⟩,_,Ja,_,Ja,(dU),fun t ht=>?_⟩;have t6:=SB.new (ps:=[D]) ht (.tup [.ref tx,.int m]);have hV:(upd H5 t (.tup [.ref tx,.int m])) D=some (.lst us):=by rw [upd_ne (ne_of_none d7 ht)]; exact d7
   refine ⟨D,us,_,Ja,Ja,hV,wU (Yb zG (by decide)),?_⟩;have t7:=SB.set (ps:=[D]) hV (by simp) (.lst (us++[.ref t]));exact ⟨((QX.trans s5).trans t6).trans t7,_,_,_,Ja,Qt,Bears.append ((zR.sb t6 Gr.aj).sb t7 Gr.aj) (.cons (Dp.tup (t7.aH (SqT.of Qt)) (.cons (fc ((s5.trans t6).trans t7) _ _ (Gr.a6 _) Gv) (.cons (.int _) .nil))) .nil)⟩
  rcases List.eq_nil_or_concat (jn (bs.take i)) with he | ⟨js,z,he⟩
  ·rw [he] at gT app;rw [he];cases gT;refine iteF (iteF ?_);exact app [] [] p.2 H4 SB.refl b0 .nil (by simp) rfl
  ·rw [List.concat_eq_append] at he;rw [he] at gT app jd;rw [he];obtain ⟨us,u,rfl,I0,hu⟩:=gT.snoc;obtain ⟨az,tz,uz,rfl,ri,_,_,VR⟩:=rY hu;obtain ⟨zn,zo,zd⟩:=jd z (by simp);obtain ⟨pn,po,pd⟩:=bok p pm;have e0:(!PyData.eqv (.list ((js++[z]).map Gr.aC)) (.list []))=true:=by
    cases js <;> simp [PyData.eqv,PyData.eqvAll]
   rw [e0];refine iteT ?_;refine ⟨_,Ja,1,Ja,D,_,_,_,Ja,Ja,SqL.of b0,IC,az,_,_,_,Ja,Ja,ri,atI_nat (j:=0) rfl,_,Ja,Gr.aO z.1,Gr.aO p.1,VR,Gv,Gr.lV zn zo (by omega),Gr.lV pn po (by omega),_,Ja,?_⟩;rw [Orderly.eq (enc:=Gr.aO)];have ul:us.length<=1000:=by rw [Yf] at al; omega
   by_cases hz:z.1=p.1
   ·rw [show decide (z.1=p.1)=true by simp [hz]];refine iteT ?_;refine ⟨_,Ja,_,Ja,.inl ⟨rfl,_,SqL.of b0⟩,D,_,_,Ja,Ja,b0,(by simp:(us++[V.ref az])[(us++[V.ref az]).length-1]?=some (V.ref az)),?_⟩;have ed:(us++[V.ref az]).dropLast=us:=by simp
    rw [ed];have t6:=SB.set (ps:=[D]) b0 (by simp) (.lst us);refine ⟨az,_,_,_,Ja,Ja,t6.aH ri,atI_nat (j:=1) rfl,_,_,Ja,Ja,?_⟩;refine app us js (p.2+z.2) _ t6 Qt (I0.sb t6 Gr.aj) ul ?_;rw [rZ,if_pos hz,Int.add_comm]
   ·rw [show decide (z.1=p.1)=false by simp [hz]];refine iteF ?_;refine app _ (js++[z]) p.2 H4 SB.refl b0 gT (by rw [Yf,Yi] at al ⊢; omega) ?_;rw [rZ,if_neg hz]
 ·obtain ⟨s2,acc,o2,o3,rfl,bj,dv⟩:=h2;rw [zl,Yh] at dv;refine ⟨_,Ja,D,acc,Ja,.inl ⟨SqL.of bj,fun t ht=>?_⟩⟩;have t3:=Jb ht (.tup acc);refine q _ _ ((((t0.trans s1).nil.trans s2).drop hD).trans t3) ?_;have e:Gr.tidy as=Gr.ofPs (jn bs):=by rw [<- vE]; rfl
  rw [e];exact QE (SqT.of Qt) (dv.sb t3 Gr.aj)
end
namespace Gr
theorem v9 {g:Gr} (h:∀ p ∈ bs,dN p.1.1/\p.1.2.Ok C/\1<=p.2) (hg:g.Ok D) (hs:∀ x,sumE bs x=S g x):tidy bs=g:=by
 have hn:=z4x (bs:=bs) fun p hp=>by have:=(h p hp).2.2; omega
 have hc:C<=cE bs+1+(C.natAbs:Int):=by omega
 have o:(tidy bs).Ok (cE bs+1+(C.natAbs:Int)):=qv (C:=C) h (by omega) hc;refine ext o hg fun x=>?_;rw [<- hs x];show sumE (ofPs (rR aO bs)).ps x=_;rw [aK,Iz]
theorem Bw {g:Gr} {j:Nat} {p:Tr × Int} (e:g.ps[j]?=some p) (x:Tr):sumE (g.ps.take j++g.ps.drop (j+1)) x=S g x-(if p.1=x then p.2 else 0):=by
 have e1:g.ps=g.ps.take j++p::g.ps.drop (j+1):=by
  obtain ⟨hj,ej⟩:=Kq e;rw [<- ej,<- List.drop_eq_getElem_cons hj,List.take_append_drop]
 show _=sumE g.ps x-_
 conv=>rhs; rw [e1]
 rw [wV,wV,pC];omega
theorem jY {g:Gr} (ho:g.Ok C) {j:Nat} {p:Tr × Int} (e:g.ps[j]?=some p) (x:Tr):sumE (g.ps.take j++g.ps.drop (j+1)++(if 1 < p.2 then [(p.1,p.2-1)] else [])) x=S (wo g p.1 1) x:=by
 have pm:=Qu e;have h1:=(cj ho pm).2.2.1;have sp:=iR ho pm;rw [wV,Bw e x,Hv ho (by decide),sp];by_cases hx:x=p.1
 ·subst hx;rw [if_pos rfl,if_pos rfl,sp]
  split
  ·rw [pC,if_pos rfl]; simp only [sumE]; omega
  ·simp only [sumE]; omega
 ·rw [if_neg (fun z=>hx z.symm),if_neg hx]
  split
  ·rw [pC,if_neg (fun z=>hx z.symm)]; simp only [sumE]; omega
  ·simp only [sumE]; omega
end Gr
section
variable {P:Program} {w:World} {K:Qn} {mg:Str->Option Value} {base:Heap} {f:Addr} {fd:FuncData}
abbrev XY:List Str:=[aw,aB,fm,fb,dr,"_law_at","_law_tree",aQ,dX,"_law_spreads","_law_rules","_law_once","_law_each","_law_changed","_law_new","_law_so"]
theorem eJ:FnScope XY [aw,aB,fm,fb,dr] (defScope HU):=fS
theorem zce {ps:List Str}:FnOk P w K mg base CX0 k f fd ps (Iy K 0):=vW fun vs H Q E ⟨_,_,_,_,_,_,_,_,_,_,_,_,_,_,_,_,_,_,_,_,_,_,h,_⟩=>by omega
theorem zho (B:BI mg) (oK:Got P w K mg base bL [dX] (1) (KU K)) (AM:Got P w K mg base dg [aw,aB,fm,fb,dr] (n+1) (Iy K n)) (F:Fun K dg dg HU f fd):FnOk P w K mg base CX0 (n+2) f fd [aw,aB,fm,fb,dr] (Iy K (n+1)):=by
 refine F.ok eJ (fun vs H Q E h=>?_) (fun _ A _ s H vs Q E hr h=>?_)
 ·obtain ⟨d,a,u,b,g,pl,k,kd,i,r,m,C,rfl,_⟩:=h
  rfl
 obtain ⟨d,a,u,b,g,pl,k,kd,i,r,m,C,rfl,hd,⟨ok,gn⟩,⟨hu,go,gd,gp⟩,ff,hb,eg,er,m0,m1,hm,q⟩:=h;have bF:=bC hr;refine ⟨_,Qc (ps_set (i:=5) eJ.nd rfl (.inl rfl) (Qm Ql (pv 2) Qg (fun _ _=>rfl)))
  (Qc (ps_asg (Qm Ql (pv 1) (pv 5) (fun _ _=>rfl)) (pg_tup rfl (Qi (pg_name (i:=6) eJ.nd rfl (.inl rfl)) (Qi (pg_name (i:=7) eJ.nd rfl (.inl rfl)) pgs_nil))))
  (Qc (ps_set (i:=8) eJ.nd rfl (.inl rfl) (pe_callTy call_list_of rfl B.list boot_list (Qa (pe_op yc (pe_slice yq (pv 1) po_none (po_some (pv 5))) (pe_slice yq (pv 1) (po_some (pe_op Ko (pv 5) Qg)) po_none)) Qb)))
  (Qc (Qr (pt_cmpR op_gt (pv 7) Qg (nomark _)) (Qe (Kf (Kn Ki PySem.F.slot_list_append PySem.F.type_list_append mt_append (pv 8) (Qa (Ka (Qa (pv 6) (Qa (pe_op op_sub (pv 7) Qg) Qb))) Qb)))) pss_nil)
  (Qc (ps_asg (pe_dget (u1 hr) (pv 0) (Qm Ql (pv 6) Qg (fun _ _=>rfl)) (fun _ _=>rfl)) (pg_tup rfl (Qi (pg_name (i:=9) eJ.nd rfl (.inl rfl)) (Qi (pg_name (i:=10) eJ.nd rfl (.inl rfl)) pgs_nil))))
  (Qc (Qr (pt_cmpR op_eq (Qs call_len_seq rfl B.len PySem.boot_len (Qa (pv 2) Qb)) Qg (nomark _)) (Qc (ps_asg (Qm ix_list (pe_op op_cat (pe_lst (Qa (Ka (Qa (Ka Qb) (Qa (Ka Qb) Qb))) Qb)) (pv 10)) (pv 3) (fun _ _=>rfl)) (pg_tup rfl (Qi (pg_name (i:=11) eJ.nd rfl (.inl rfl)) (Qi (pg_name (i:=12) eJ.nd rfl (.inl rfl)) pgs_nil))))
  (Qc (Kf (Kn Ki PySem.F.slot_list_extend PySem.F.type_list_extend zat (pv 8) (Qa (pv 11) Qb)))
  (Qc (Qr (pt_cmpR op_gt (pv 4) Qg (nomark _)) (Qe (Kf (Kn Ki PySem.F.slot_list_extend PySem.F.type_list_extend mt_extend (pv 8) (Qa (pe_lc (own:=[("_law_new",14),("_law_so",15)]) (g:=(gTup K 2 (gCons (gName 14) (gCons (gName 15) gNil)))) (tt:=tYes) (te:=(tTup (tCons (tVar 14) (tCons (tOp (rI CMulW fun i j=>.int (i*j)) (tVar 15) (tVar 4)) tNil)))) rfl eJ.nd (pi_tup (pv 12)) (blkOk_by (N:=XY) (sc:=defScope HU) (by decide +kernel)) (fun _ _ _ _ _=>(pg_tup rfl (Qi (pg_name (i:=14) eJ.nd rfl (.inl rfl)) (Qi (pg_name (i:=15) eJ.nd rfl (.inl rfl)) pgs_nil)))) (fun _ _ _ _ _=>pts_nil) (fun _ _ _ _ _=>(Ka (Qa (pv 14) (Qa (pe_op op_mulW (pv 15) (pv 4)) Qb))))) Qb)))) pss_nil)
  (Qe (Qj (aS oK (Hm hr) rfl (Qa (pv 8) Qb))))))) pss_nil)
  (Qc (ps_set (i:=13) eJ.nd rfl (.inl rfl) (Ka (Qa (Qm Ql (pv 6) Qg (fun _ _=>rfl)) (Qa (aS AM (Hm hr) rfl (Qa (pv 0) (Qa (Qm Ql (pv 6) Qg (fun _ _=>rfl)) (Qa (pe_slice yq (pv 2) (po_some Qg) po_none) (Qa (pv 3) (Qa (pv 4) Qb)))))) Qb))))
  (Qc (Kf (Kn Ki PySem.F.slot_list_append PySem.F.type_list_append mt_append (pv 8) (Qa (Ka (Qa (pv 13) (Qa (pe_op Ko Qg (pe_op op_mul (pv 4) (pe_callTy call_int1 rfl B.int boot_int (Qa (pv 9) Qb)))) Qb))) Qb)))
  (Qe (Qj (aS oK (Hm hr) rfl (Qa (pv 8) Qb))))))))))),?_⟩
 have kY:=sizeLine_eq;obtain ⟨j,rr,rfl⟩:∃ j r,pl=j::r:=by
  cases pl with
  | nil=>exact absurd hb (by intro z; cases z)
  | cons j r=>exact ⟨j,r,Ja⟩
 obtain ⟨ga,gs,rfl,jR,zL⟩:=vX hu;have gl:=zL.length;have glp:=g.aM;obtain ⟨p,ep⟩:∃ p,g.ps[j]?=some p:=by
  by_cases hr:rr=[]
  ·subst hr;obtain ⟨p,e,_⟩:=Gr.dw hb;exact ⟨p,e⟩
  ·obtain ⟨p,e,_⟩:=Gr.cw hr hb;exact ⟨p,e⟩
 have pm:=Qu ep;obtain ⟨n1,o1,p1,pD⟩:=Gr.cj go pm;have pd:=g.av p pm;have pp:=g.bE p pm;obtain ⟨vp,WW,gz⟩:=zL.at ep;obtain ⟨ad,bd,ux,rfl,h1,h2,h3,h4⟩:=rY gz;obtain ⟨kn,pn⟩:=Gr.aJ.mp gn p pm;obtain ⟨BW,R4⟩:=Bk.d8 kn;have iD:eW r:=by
  rcases Qv (Qu er) with rfl | rm
  ·exact (Gr.zh (ns:=[])).1
  ·exact ((ok.kd kd (Bk.get_some eg).1).2.2 r rm).1
 have rp:=iD.2.2;have hC:=Gr.uc go pm;refine ⟨_,Ja,a,_,_,_,Ja,Ja,ff,atI_nat (j:=0) rfl,?_⟩;refine b7 ?_;refine ⟨_,Ja,_,Ja,ga,gs,_,_,Ja,Ja,jR,atI_nat WW,ad,_,Ja,h1,Ja,_,_,Ja,_,_,Ja,Ja,?_⟩;refine ⟨_,Ja,_,Ja,_,Ja,ga,gs,Ja,jR,fun c1 H1 s1 um=>?_⟩;rw [P5] at um;refine ⟨_,Ja,_,Ja,_,_,Ja,Ja,_,Ja,ga,gs,Ja,s1.aH jR,fun c2 H2 s2 kQ=>?_⟩;have e1:cutV gs (some ((j:Int)+1)) none=gs.drop (j+1):=by rw [<- KR]; rfl
 rw [e1] at kQ;refine ⟨c1,c2,_,_,Ja,Ja,s2.aH um,kQ,by rw [Kx,List.length_drop]; omega,fun c3 H3 s3 uk=>?_⟩;refine ⟨c3,_,Ja,.inr uk,fun L nL=>?_⟩;have t4:=Jb nL (.lst (gs.take j++gs.drop (j+1)));have DY:=dZ t4;have fy:=(s1.trans s2).trans s3;have mf:=fy.trans t4;have Rh:H L=none:=fy.kS _ nL;generalize upd H3 L _=H4 at t4 DY mf;have Jk:Bears K H4 Gr.aC (gs.take j++gs.drop (j+1)) (g.ps.take j++g.ps.drop (j+1)):=((zL.take j).append (zL.drop (j+1))).sb mf Gr.aj;have l4:(g.ps.take j++g.ps.drop (j+1)).length<=400:=by rw [Yf,Kx,List.length_drop]; omega
 have inG:∀ x ∈ g.ps.take j++g.ps.drop (j+1),x ∈ g.ps:=fun x hx=>by
  rcases Qw hx with hx | hx
  ·exact List.mem_of_mem_take hx
  ·exact List.mem_of_mem_drop hx
 refine b7 ?_;dsimp only;refine AS (fun σ' G=>∃ zs,σ'=[some (.ref d),some (.ref ga),some (.ref a),some (.int (i:Nat)),some (.int m),some (.int (j:Nat)),some (.ref bd),some (.int p.2),some (.ref L),none,none,none,none,none,none,none]/\SB [L] H4 G/\G L=some (.lst zs)/\Bears K G Gr.aC zs (g.ps.take j++g.ps.drop (j+1)++(if 1 < p.2 then [(p.1,p.2-1)] else []))) (fun nx ji=>?_) (fun σ' G h=>?_)
 ·refine ⟨_,Ja,_,_,Ja,Ja,_,Ja,?_⟩;by_cases h0:1 < p.2
  ·rw [Ya h0,if_pos h0] at *;refine iteT ⟨_,Ja,.inl ⟨rfl,_,SqL.of DY⟩,_,Ja,_,Ja,_,_,Ja,Ja,dU,fun T nT=>?_⟩;have t5:=SB.new (ps:=[L]) nT (.tup [.ref bd,.int (p.2-1)]);have lZ:upd H4 T (.tup [.ref bd,.int (p.2-1)]) L=some (.lst (gs.take j++gs.drop (j+1))):=by rw [upd_ne (ne_of_none DY nT)]; exact DY
   have DU:SqT K (upd H4 T (.tup [.ref bd,.int (p.2-1)])) T [.ref bd,.int (p.2-1)]:=SqT.of Qt;generalize upd H4 T _=H5 at t5 lZ DU;have bl:=Jk.length;refine ⟨L,_,_,Ja,Ja,lZ,wU (by omega),?_⟩;have t6:=SB.set (ps:=[L]) lZ (by simp) (.lst (gs.take j++gs.drop (j+1)++[.ref T]));refine ji _ _ ⟨_,Ja,t5.trans t6,Qt,((Jk.sb t5 Gr.aj).sb t6 Gr.aj).append (.cons (Dp.tup (t6.aH DU) (.cons (fc ((mf.nil.trans t5).trans t6) _ _ (Gr.a6 _) h4) (.cons (.int _) .nil))) .nil)⟩
  ·rw [Qz h0];refine iteF (ji _ _ ⟨_,Ja,SB.refl,DY,?_⟩);rw [if_neg h0,Kz];exact Jk
 obtain ⟨zs,rfl,s5,lZ,zR⟩:=h;have fB:SB [] H G:=(mf.nil.trans s5).drop Rh;have zl:=zR.length;have l5:(g.ps.take j++g.ps.drop (j+1)++(if 1 < p.2 then [(p.1,p.2-1)] else [])).length<=401:=by
  rw [Yf]
  split
  ·rw [Yi]; omega
  ·rw [List.length_nil]; omega
 have ok5:∀ x ∈ g.ps.take j++g.ps.drop (j+1)++(if 1 < p.2 then [(p.1,p.2-1)] else []),dN x.1.1/\x.1.2.Ok C/\1<=x.2/\x.1.2.deep<=14:=fun x hx=>by
  rcases Qw hx with hx | hx
  ·have xm:=inG x hx;obtain ⟨a1,a2,a3,_⟩:=Gr.cj go xm;have:=g.av x xm;exact ⟨a1,a2,a3,by omega⟩
  ·split at hx
   ·rw [Qy hx]; exact ⟨n1,o1,by show 1<=p.2-1; omega,by show p.1.2.deep<=14; omega⟩
   ·cases hx
 obtain ⟨vv,Mf,t,l,us,rfl,ht,hl,fQ⟩:=(hd.cH fB).val R4;refine ⟨_,Ja,_,Ja,bd,_,_,_,Ja,Ja,fB.aH h2,atI_nat (j:=0) rfl,d,_,Ja,Mf,t,_,Ja,ht,Ja,_,_,Ja,_,_,Ja,Ja,?_⟩;refine ⟨_,Ja,a,_,Ja,.inr (fB.aH ff),Ja,_,Ja,?_⟩;by_cases hr:rr=[]
 ·subst hr;obtain ⟨p',Hk,epk⟩:=Gr.dw hb;rw [ep] at Hk;cases Hk;have e2:BW=kd:=by
   rw [epk] at R4;exact Yd (R4.symm.trans eg)
  subst e2;refine iteT ?_;refine ⟨Z0,fun z1 BM=>?_⟩;have t6:=Jb BM (.tup []);have vq:=gA (K:=K) t6;generalize upd G z1 _=H6 at t6 vq;refine ⟨Z0,fun z2 BL=>?_⟩;have t7:=Jb BL (.tup []);have FD:=gA (K:=K) t7;generalize upd H6 z2 _=H7 at t7 FD;refine ⟨dU,fun z3 LU=>?_⟩;have t8:=Jb LU (.tup [.ref z1,.ref z2]);have zE:=gA (K:=K) t8;generalize upd H7 z3 _=H8 at t8 zE;have Vp:Dp K H8 (.ref z3) (Ru.enc mj):=.tup zE (.cons (C7 ((t7.trans t8).aH vq)) (.cons (C7 (t8.aH FD)) .nil));refine ⟨Z1,fun z4 UD=>?_⟩;have t9:=Jb UD (.lst [.ref z3]);have Mc:=dZ t9;generalize upd H8 z4 _=H9 at t9 Mc;have mc:=((t6.trans t7).trans t8).trans t9;have usl:=fQ.length;have u4:=(ok.kd BW (Bk.get_some eg).1).2.1;refine ⟨_,Ja,z4,l,_,_,Ja,Ja,Mc,mc.keep _ _ hl aL,by rw [Yi]; omega,fun z5 IQ=>?_⟩;have gO:=Jb IQ (.lst ([.ref z3]++us));have Dz:=dZ gO;generalize upd H9 z5 _=mP at gO Dz;have BA:=mc.trans gO;have oq:Bears K mP Ru.enc ([.ref z3]++us) (mj::BW.rs):=.cons (fc (t9.trans gO) _ _ (Ru.af _) Vp) (fQ.sb BA Ru.af);obtain ⟨rv,erv,FU⟩:=oq.at er;cases FU with
  | @tup rt AW _ hrt hda =>
  cases hda with
  | @cons v1 _ _ _ g1 hda =>
  cases hda with
  | @cons v2 _ _ _ g2 hda =>
  cases hda;have g1:GA K mP v1 r.1:=g1;have g2:GA K mP v2 r.2:=g2;obtain ⟨c4,Lg,rfl,V0,yk⟩:=vX g1;obtain ⟨c5,Ts,rfl,hc5,Cz⟩:=vX g2;have xl1:=yk.length;have xl2:=Cz.length;have rl1:=r.1.aM;have rl2:=r.2.aM;refine ⟨_,Ja,z5,_,_,_,Ja,Ja,SqL.of Dz,atI_nat erv,rt,_,Ja,hrt,Ja,_,_,Ja,_,_,Ja,Ja,?_⟩;have xT:=BA.keep _ _ lZ aL;have CA:=zR.sb BA Gr.aj;refine ⟨_,Ja,.inl ⟨rfl,_,SqL.of xT⟩,_,Ja,L,c4,_,_,Ja,Ja,xT,V0,by omega,?_⟩;have kM:=SB.set (ps:=[L]) xT (by simp) (.lst (zs++Lg));have CG:upd mP L (.lst (zs++Lg)) L=some (.lst (zs++Lg)):=Qt;generalize upd mP L _=vP at kM CG;have Ng:=(CA.append yk).sb kM Gr.aj;have s0b:SB [] H vP:=((fB.trans BA).nil.trans kM).drop Rh;have Uq:∀ x ∈ r.1.ps,dN x.1.1/\x.1.2.Ok 1000000001/\1<=x.2/\x.1.2.deep<=14:=fun x hx=>by
   obtain ⟨a1,a2,a3,_⟩:=Gr.cj iD.1 hx;have:=r.1.av x hx;have:=oL r.1;exact ⟨a1,a2,a3,by omega⟩
  have Uo:∀ x ∈ r.2.ps,dN x.1.1/\x.1.2.Ok 1000000001/\1<=x.2/\x.1.2.deep<=14:=fun x hx=>by
   obtain ⟨a1,a2,a3,_⟩:=Gr.cj iD.2.1 hx;have:=r.2.av x hx;have:=oL r.2;exact ⟨a1,a2,a3,by omega⟩
  dsimp only;refine AS (fun σ' G2=>∃ (PL:List V) (Fm o15:Option V),σ'=[some (.ref d),some (.ref ga),some (.ref a),some (.int (i:Nat)),some (.int m),some (.int (j:Nat)),some (.ref bd),some (.int p.2),some (.ref L),some (.bl BW.w),some (.ref l),some (.ref c4),some (.ref c5),none,Fm,o15]/\SB [L] vP G2/\G2 L=some (.lst PL)/\Bears K G2 Gr.aC PL ((g.ps.take j++g.ps.drop (j+1)++(if 1 < p.2 then [(p.1,p.2-1)] else []))++r.1.ps++(Gr.fx r.2 m).ps)) (fun nx ji=>?_) (fun σ' G2 h=>?_)
  ·refine ⟨_,Ja,_,_,Ja,Ja,_,Ja,?_⟩;by_cases h0:0 < m
   ·rw [Ya h0];refine iteT ⟨_,Ja,.inl ⟨rfl,_,SqL.of CG⟩,_,Ja,c5,Ja,⟨Ts,kM.aH hc5⟩,fun D nD=>?_⟩;refine oU (walk_tup (xs:=Ts)) nD (by omega) (fun jj ws H6=>Bears K H6 Gr.aC ws (Gr.qu m (r.2.ps.take jj))) .nil (fun H6 s6=>s6.aH (kM.aH hc5)) (fun _ _ _ _ s h=>h.sb s Gr.aj) (fun Pv jj y Hq H6 ws hj s6 yy hR Va fin skip=>?_) (fun ws H6 s6 hV hR Va=>?_)
    ·obtain ⟨rfl,WV⟩:=yy;obtain ⟨x2,R0,om⟩:=Cz.get WV;have xm:=Qu R0;obtain ⟨q1,q2,q3,q4⟩:=Gr.cj iD.2.1 xm;obtain ⟨ad2,bd2,ux2,rfl,k1,k2,k3,k4⟩:=rY om;have cm:CMulW x2.2 m:=by
      have e1:=PZ (x:=x2.2) (a:=2000) (b:=2000) (Gr.i3 (by omega) (Int.lt_trans q4 (by decide +kernel))) (Yc _) (by decide);have e2:=PZ (x:=m) (a:=2000) (b:=2000) (Gr.i3 m0 m1) (Yc _) (by decide);unfold CMulW;omega
     have uh:=kM.trans (s6.nil (ps:=[L]));refine ⟨ad2,_,Ja,uh.aH k1,Ja,_,_,Ja,_,_,Ja,Ja,Ja,?_⟩;refine ⟨_,Ja,_,Ja,_,Ja,_,_,Ja,Ja,cm,dU,fun T nT=>?_⟩;have hY:=Jb nT (.tup [.ref bd2,.int (x2.2*m)]);refine fin _ _ hY ?_;rw [Yg,R0];show Bears K _ Gr.aC _ (List.map _ _);rw [Yj];exact (hR.sb hY Gr.aj).append (.cons (Dp.tup (SqT.of Qt) (.cons (fc (uh.trans hY.nil) _ _ (Gr.a6 _) k4) (.cons (.int _) .nil))) .nil)
    ·rw [xl2,Yh] at hR;have hL6:=s6.keep _ _ CG aL;have wl:=hR.length;have wl2:(Gr.qu m r.2.ps).length=r.2.ps.length:=List.length_map ..;have z6l:(zs++Lg).length<=500:=by rw [Yf]; omega
     refine ⟨L,D,_,_,Ja,Ja,hL6,hV,by omega,?_⟩;have hY:=SB.set (ps:=[L]) hL6 (by simp) (.lst (zs++Lg++ws));refine ji _ _ ⟨_,_,_,Ja,s6.nil.trans hY,Qt,?_⟩;have em:(Gr.fx r.2 m).ps=Gr.qu m r.2.ps:=by
      unfold Gr.fx;rw [if_neg (by omega),Gr.aK]
     rw [em];exact ((Ng.sb s6 Gr.aj).sb hY Gr.aj).append (hR.sb hY Gr.aj)
   ·rw [Qz h0];refine iteF (ji _ _ ⟨_,_,_,Ja,SB.refl,CG,?_⟩);have em:(Gr.fx r.2 m).ps=[]:=by
     unfold Gr.fx;rw [if_pos (by omega)]; rfl
    rw [em,Kz];exact Ng
  obtain ⟨PL,Fm,o15,rfl,jD,Wn,V5⟩:=h;have T5:SB [] H G2:=(s0b.nil.trans jD).drop Rh;have tl:=Gr.Bq r.2 m;have mok:∀ x ∈ (Gr.fx r.2 m).ps,dN x.1.1/\x.1.2.Ok 1000000001/\1<=x.2/\x.1.2.deep<=14:=fun x hx=>by
   have mo:=Gr.gM (m:=m) iD.2.1 (by decide) m0;obtain ⟨q,hq,eq⟩:=Gr.v8 hx;obtain ⟨a1,a2,a3,a4⟩:=Uo q hq;exact ⟨by rw [<- eq]; exact a1,by rw [<- eq]; exact a2,(Gr.cj mo hx).2.2.1,by rw [<- eq]; exact a4⟩
  have all:∀ x ∈ (g.ps.take j++g.ps.drop (j+1)++(if 1 < p.2 then [(p.1,p.2-1)] else []))++r.1.ps++(Gr.fx r.2 m).ps,dN x.1.1/\x.1.2.Ok (C+1000000001)/\1<=x.2/\x.1.2.deep<=14:=fun x hx=>by
   rcases Qw hx with hx | hx
   ·rcases Qw hx with hx | hx
    ·obtain ⟨a1,a2,a3,a4⟩:=ok5 x hx;exact ⟨a1,a2.mono (by omega),a3,a4⟩
    ·obtain ⟨a1,a2,a3,a4⟩:=Uq x hx;exact ⟨a1,a2.mono (by omega),a3,a4⟩
   ·obtain ⟨a1,a2,a3,a4⟩:=mok x hx;exact ⟨a1,a2.mono (by omega),a3,a4⟩
  refine ⟨_,Ja,L,PL,_,Ja,.inl (SqL.of Wn),V5,?_,⟨C+1000000001,fun x hx=>⟨(all x hx).1,(all x hx).2.1,Yb (all x hx).2.2.2 (by decide)⟩⟩,fun v H' uW hv=>q v H' (T5.trans uW) ?_⟩
  ·rw [Yf,Yf]; omega
  ·have e3:Gr.tidy ((g.ps.take j++g.ps.drop (j+1)++(if 1 < p.2 then [(p.1,p.2-1)] else []))++r.1.ps++(Gr.fx r.2 m).ps)=Gr.mE (Gr.wo g p.1 1) (Gr.gH r m):=by
    refine Gr.v9 (fun x hx=>⟨(all x hx).1,(all x hx).2.1,(all x hx).2.2.1⟩) (Gr.fL (Gr.g6 go (by decide)) (Gr.oz iD m0) (by omega) (by omega)) fun x=>?_;rw [wV,wV,Gr.jY go ep x,Gr.tV];unfold Gr.gH;rw [Gr.tV];show _+Gr.S r.1 x+Gr.S (Gr.fx r.2 m) x=_;omega
   rw [e3] at hv;rw [Gr.iX ep];exact hv
 have hlen:decide (V.int (((j::rr).map fun n:Nat=>V.int (n:Int)).length:Nat)=V.int 1)=false:=by
  have:=List.length_pos_iff.mpr hr;simp only [Ye,Yk,V.int.injEq];exact Qz (by omega)
 rw [hlen];obtain ⟨p',Hk,gT⟩:=Gr.cw hr hb;have e:=ep.symm.trans Hk;cases e;rw [Yk] at hm;refine iteF ⟨_,Ja,bd,_,_,_,Ja,Ja,fB.aH h2,atI_nat (j:=0) rfl,_,Ja,_,Ja,bd,_,_,_,Ja,Ja,fB.aH h2,atI_nat (j:=1) rfl,_,Ja,1,Ja,a,_,Ja,fB.aH ff,fun c H6 s6 hc=>?_⟩;rw [OP,Ky,List.drop_succ_cons,List.drop_zero] at hc;have me:=fB.trans s6;refine ⟨_,Ja,_,Ja,d,c,ux,b,p.1.2,rr,k,kd,i,r,m,C,Ja,hd.cH me,⟨ok,pn⟩,⟨h3.sb me,o1,by omega,by omega⟩,hc,gT,eg,er,m0,m1,by omega,fun inner H7 s7 DJ=>?_⟩;refine ⟨dU,fun T nT=>?_⟩;have t8:=Jb nT (.tup [.str p.1.1,inner]);have hT:Dp K (upd H7 T (.tup [.str p.1.1,inner])) (.ref T) (Gr.aO (Gr.chg b m (Gr.gH r m) rr p)):=.tup (SqT.of Qt) (.cons (.str _) (.cons (DJ.sb t8) .nil));generalize upd H7 T _=H8 at t8 hT;refine b7 ?_;have Lu:=(s6.trans s7).trans t8;have DX:=Lu.keep _ _ lZ aL;have hb8:=zR.sb Lu Gr.aj;obtain ⟨f0,f1⟩:=Bk.oC b p.1.1 m0;have VM:1+m*(if BW.w=true then 1 else 0)=1+b.far p.1.1 m:=by
  unfold Bk.far;rw [R4];show _=1+(if BW.w=true then m else 0)
  split <;> omega
 have w01:(-(2 ^ 64):Int) < (if BW.w=true then 1 else 0)/\(if BW.w=true then 1 else 0) < (2 ^ 64:Int):=by split <;> exact ⟨by decide,by decide⟩
 refine ⟨_,Ja,.inl ⟨rfl,_,SqL.of DX⟩,_,Ja,_,Ja,_,Ja,.inr ⟨_,Ja,_,_,Ja,Ja,.inr w01,_,_,Ja,Ja,dU,fun T2 BQ=>?_⟩⟩;dsimp only;rw [VM];have t9:=Jb BQ (.tup [.ref T,.int (1+b.far p.1.1 m)]);have hT9:=gA (K:=K) t9;have Wl:=t9.keep _ _ DX aL;have hb9:=hb8.sb t9 Gr.aj;have hTt:=fc t9 _ _ (Gr.a6 _) hT;generalize upd H8 T2 _=H9 at t9 hT9 Wl hb9 hTt;refine ⟨L,_,_,Ja,Ja,Wl,wU (by omega),?_⟩;have gO:=SB.set (ps:=[L]) Wl (by simp) (.lst (zs++[.ref T2]));have xT:upd H9 L (.lst (zs++[.ref T2])) L=some (.lst (zs++[.ref T2])):=Qt;have CA:Bears K (upd H9 L (.lst (zs++[.ref T2]))) Gr.aC (zs++[.ref T2]) ((g.ps.take j++g.ps.drop (j+1)++(if 1 < p.2 then [(p.1,p.2-1)] else []))++[(Gr.chg b m (Gr.gH r m) rr p,1+b.far p.1.1 m)]):=(hb9.sb gO Gr.aj).append (.cons (Dp.tup (gO.aH hT9) (.cons (fc gO _ _ (Gr.a6 _) hTt) (.cons (.int _) .nil))) .nil);have sJ:SB [] H (upd H9 L (.lst (zs++[.ref T2]))):=(((fB.trans Lu).trans t9).nil.trans gO).drop Rh;generalize upd H9 L _=mP at gO xT CA sJ;have go2:=Gr.oz iD m0;have io:=Gr.lg (b:=b) m0 (by omega) go2 o1 gT;have id:=Gr.j0 (b:=b) (n:=m) (fr:=Gr.gH r m) gT;have il:=Gr.iN gT;have gd2:=Gr.oA iD m;have all:∀ x ∈ (g.ps.take j++g.ps.drop (j+1)++(if 1 < p.2 then [(p.1,p.2-1)] else []))++[(Gr.chg b m (Gr.gH r m) rr p,1+b.far p.1.1 m)],dN x.1.1/\x.1.2.Ok (C+(1000000001*m+2000000002)+m+2)/\1<=x.2/\x.1.2.deep<=18:=fun x hx=>by
  rcases Qw hx with hx | hx
  ·obtain ⟨a1,a2,a3,a4⟩:=ok5 x hx;exact ⟨a1,a2.mono (by omega),a3,by omega⟩
  ·rw [Qy hx];exact ⟨n1,io,by show 1<=1+b.far p.1.1 m; omega,by show (Gr.stk b m (Gr.gH r m) rr p.1.2).1.deep<=18; omega⟩
 refine ⟨_,Ja,L,_,_,Ja,.inl (SqL.of xT),CA,by rw [Yf,Yi]; omega,⟨_,fun x hx=>⟨(all x hx).1,(all x hx).2.1,(all x hx).2.2.2⟩⟩,fun v H' uX hv=>q v H' (sJ.trans uX) ?_⟩;rw [Gr.gB ep hr];have e3:Gr.tidy ((g.ps.take j++g.ps.drop (j+1)++(if 1 < p.2 then [(p.1,p.2-1)] else []))++[(Gr.chg b m (Gr.gH r m) rr p,1+b.far p.1.1 m)])=Gr.Jx b m (Gr.gH r m) rr g p:=by
  refine Gr.v9 (fun x hx=>⟨(all x hx).1,(all x hx).2.1,(all x hx).2.2.1⟩) (D:=C+(C+(1000000001*m+2000000002)+m+2)) (Gr.fL (Gr.g6 go (by decide)) (Gr.vf (C:=C+(1000000001*m+2000000002)+m+2) n1 io (by omega) (by omega)) (by omega) (by omega)) fun x=>?_;rw [wV,Gr.jY go ep x];unfold Gr.Jx;rw [Gr.tV,Gr.Eu];simp only [sumE];omega
 rw [e3] at hv;exact hv
end
theorem zhy {K:Qn} {H:Hp} {σ:L2.St} {jP jL jV:Nat} {wi:TI} (hk:k<=1000) (h1:∀ x,((wipe σ [jV]).set jV (some x))[jP]?=some (some (.ref p))) (h2:∀ x,((wipe σ [jV]).set jV (some x))[jL]?=some (some (.str uu)))
  (h3:∀ x,wipe ((wipe σ [jV]).set jV (some x)) [jV]=wipe σ [jV]) (hwi:∀ R:It->Hp->Prop,R (Itr 0 k) H->wi σ H R) (hp:bR H p c) (q:∀ z H',SB [p] H H'->bR H' p c->jN z k->Q (.str z) H') :
  tM1 (zgh K) (tC (.str (Str.ofString ""))) (tLc wi (gName jV) tYes (tOp rIxS (tVar jL) (tCall AU [] E0 (tCons (tVar jP) (tCons (tC (.int 26)) tNil)))) [jV]) σ H Q:=by
 refine ⟨⟨_,Ja⟩,hwi _ fun D hD=>?_⟩;have kY:=sizeLine_eq;refine zec walk_range [p] hD hp.some (by omega) (fun i us H2=>bR H2 p c/\∃ cs:List Nat,us=cs.map (fun c=>V.str ⟨#[c]⟩)/\cs.length=i/\∀ c ∈ cs,97<=c/\c<=122) ⟨hp,[],Ja,Ja,by simp⟩ (fun _ _=>trivial) (fun i us H2 H3 e ⟨a,b⟩=>⟨a.keep e (by simpa using hp.ne hD) (by simpa using hp.nc hD),b⟩) (fun Pv i x H2 H' us hi s2 y hR hl fin _=>?_) (fun us H2 s2 bj hR hl=>?_)
 ·obtain ⟨rfl,rfl⟩:=y;obtain ⟨eY,cs,rfl,cl,co⟩:=hR;refine ⟨h3 _,_,h2 _,?_⟩;refine ⟨_,h1 _,p,c,26,Ja,eY,by decide,by decide,fun r H3 r0 r26 s3 oo=>?_⟩;obtain ⟨n,rfl⟩:∃ n:Nat,r=(n:Int):=⟨r.toNat,by omega⟩;obtain ⟨c,hc,hco⟩:=zha n (by omega);refine ⟨_,_,c,Ja,Ja,Y5,QD hc,fin _ _ s3 ⟨oo,cs++[c],by rw [Yj]; rfl,by simp [cl],fun d hd=>?_⟩⟩;rcases Qw hd with hd | hd
  ·exact co d hd
  ·rw [Qy hd]; exact hco
 ·obtain ⟨eY,cs,rfl,cl,co⟩:=hR;have e1:(cs.map fun c=>V.str ⟨#[c]⟩)=(cs.map fun c=>(⟨#[c]⟩:Str)).map V.str:=by rw [List.map_map]; rfl
  rw [e1] at bj;refine ⟨_,D,cs.map fun c=>⟨#[c]⟩,Ja,Ja,.inl (SqL.of bj),?_,q _ _ s2 eY (by have:=zbd cs co; rw [cl] at this; exact this)⟩;have:∀ cs:List Nat,((cs.map fun c=>(⟨#[c]⟩:Str)).map (·.length)).sum=cs.length:=by
   intro cs
   induction cs with
   | nil=>rfl
   | cons c r ih=>rw [Ky,Ky,List.sum_cons,ih]; show 1+r.length=r.length+1; omega
  rw [this,Ye,cl];have:(Str.ofString "").length=0:=by decide +kernel
  rw [this]; omega
theorem jN.Es (h:jN z n) (a:Nat):jN (cutS z (some (a:Int)) none) (n-min a n):=by
 have hl:=h.len;have e:(cutS z (some (a:Int)) none).cps.toList=z.cps.toList.drop (min a n):=by
  unfold cutS;rw [HT.sIx_nat,HT.sIx_none,hl];have:=h.1;rw [List.take_of_length_le (by rw [List.length_drop]; omega)]
 unfold jN;rw [e,List.length_drop,h.1];exact ⟨rfl,fun c hc=>h.2 c (List.mem_of_mem_drop hc)⟩
section
variable {P:Program} {w:World} {K:Qn} {mg:Str->Option Value} {base:Heap} {f:Addr} {fd:FuncData}
abbrev PM:List Str:=[aa,aQ,"_law_letters","_law_size","_law_stem","_law_at","_law_first","_law_step","_law_k"]
theorem eI:FnScope PM [aa,aQ] (defScope C4):=fS
theorem zhw (B:BI mg) (br:Got P w K mg base bK [aa,aQ] (1) (AU)) (F:Fun K fq fq C4 f fd):FnOk P w K mg base CX0 (2) f fd [aa,aQ] (ZR K):=by
 refine F.ok eI (fun vs H Q E h=>?_) (fun _ A _ _ H vs Q E hr h=>?_)
 ·obtain ⟨p,cl,m,rfl,_⟩:=h
  rfl
 obtain ⟨p,cl,m,rfl,hp,m1,m8,q⟩:=h;have bF:=bC hr;refine ⟨_,Qc (ps_set (i:=2) eI.nd rfl (.inr rfl) pe_str)
  (Qc (ps_set (i:=3) eI.nd rfl (.inl rfl) (pe_op Ko Qg (aS br (Hm hr) rfl (Qa (pv 0) (Qa Qg Qb)))))
  (Qc (ps_set (i:=4) eI.nd rfl (.inr rfl) (pe_join pe_str (pe_lc (own:=[("_law_k",8)]) (g:=(gName 8)) (tt:=tYes) (te:=(tOp rIxS (tVar 2) (tCall (AU) [] E0 (tCons (tVar 0) (tCons (tC (.int 26)) tNil))))) rfl eI.nd (pi_range1 rfl B.range (Qa (pv 3) Qb)) (blkOk_by (N:=PM) (sc:=defScope C4) (by decide +kernel)) (fun _ _ _ _ _=>(pg_name (i:=8) eI.nd rfl (.inl rfl))) (fun _ _ _ _ _=>pts_nil) (fun _ _ _ _ _=>(Qm ix_str (pv 2) (aS br (Hm hr) rfl (Qa (pv 0) (Qa Qg Qb))) (fun _ _=>rfl))))))
  (Qc (Qr (pt_cmpR op_eq (aS br (Hm hr) rfl (Qa (pv 0) (Qa Qg Qb))) Qg (nomark _)) (Qe (Qj (pe_lc (own:=[("_law_k",8)]) (g:=(gName 8)) (tt:=tYes) (te:=(tOp X4 (tOp rIxS (tVar 4) (tC (.int 0))) (tOp (rI0 fun i j=>.int (i-j)) (tVar 1) (tVar 8)))) rfl eI.nd (pi_range1 rfl B.range (Qa (pv 1) Qb)) (blkOk_by (N:=PM) (sc:=defScope C4) (by decide +kernel)) (fun _ _ _ _ _=>(pg_name (i:=8) eI.nd rfl (.inl rfl))) (fun _ _ _ _ _=>pts_nil) (fun _ _ _ _ _=>(pe_op zej (Qm ix_str (pv 4) Qg (fun _ _=>rfl)) (pe_op op_sub (pv 1) (pv 8))))))) pss_nil)
  (Qc (ps_set (i:=5) eI.nd rfl (.inr rfl) (aS br (Hm hr) rfl (Qa (pv 0) (Qa (pv 3) Qb))))
  (Qc (ps_set (i:=6) eI.nd rfl (.inr rfl) (aS br (Hm hr) rfl (Qa (pv 0) (Qa Qg Qb))))
  (Qc (ps_set (i:=7) eI.nd rfl (.inr rfl) (pe_op Ko Qg (aS br (Hm hr) rfl (Qa (pv 0) (Qa Qg Qb)))))
  (Qe (Qj (pe_lc (own:=[("_law_k",8)]) (g:=(gName 8)) (tt:=tYes) (te:=(tOp (fun x y H Q=>∃ i j,x=.str i/\y=.str j/\i.length+j.length<=sizeLine/\Q (.str (i++j)) H) (tOp (fun x y H Q=>∃ i j,x=.str i/\y=.str j/\i.length+j.length<=sizeLine/\Q (.str (i++j)) H) (tSl rSlS (tVar 4) tNoPart (tPart (tVar 5))) (tOp rIxS (tVar 2) (tOp (rI (fun _ j=>0 < j) fun i j=>.int (i % j)) (tOp (rI0 fun i j=>.int (i+j)) (tVar 6) (tOp (rI CMul fun i j=>.int (i*j)) (tVar 8) (tVar 7))) (tC (.int 26))))) (tSl rSlS (tVar 4) (tPart (tOp (rI0 fun i j=>.int (i+j)) (tVar 5) (tC (.int 1)))) tNoPart))) rfl eI.nd (pi_range1 rfl B.range (Qa (pv 1) Qb)) (blkOk_by (N:=PM) (sc:=defScope C4) (by decide +kernel)) (fun _ _ _ _ _=>(pg_name (i:=8) eI.nd rfl (.inl rfl))) (fun _ _ _ _ _=>pts_nil) (fun _ _ _ _ _=>(pe_op op_add_str (pe_op op_add_str (pe_slice sl_str (pv 4) po_none (po_some (pv 5))) (Qm ix_str (pv 2) (pe_op op_mod (pe_op Ko (pv 6) (pe_op op_mul (pv 8) (pv 7))) Qg) (fun _ _=>rfl))) (pe_slice sl_str (pv 4) (po_some (pe_op Ko (pv 5) Qg)) po_none)))))))))))),?_⟩
 have kY:=sizeLine_eq;refine b7 (Bz (CU ?_));refine ⟨_,Ja,p,cl,8,Ja,hp,by decide,by decide,fun r1 H1 Dm r18 s1 g9=>?_⟩;obtain ⟨Bv,rfl⟩:∃ u:Nat,r1=(u:Int):=⟨r1.toNat,by omega⟩;refine ⟨_,_,Ja,Ja,?_⟩;refine b7 (Bz (CU ?_));refine zhy (k:=1+Bv) (jP:=0) (jL:=2) (jV:=8) (c:=cl) (σ:=[some (.ref p),some (.int (m:Int)),some (.str uu),some (.int ((1:Int)+(Bv:Int))),none,none,none,none,none]) (by omega) (fun _=>rfl) (fun _=>rfl) (fun _=>rfl) (fun R hR=>⟨_,Ja,(1:Int)+(Bv:Int),Ja,by omega,by omega,by rw [show ((1:Int)+(Bv:Int)).toNat=1+Bv by omega]; exact hR⟩) g9 (fun st H2 s2 eY jO=>?_);have sl:=jO.len;refine b7 (ifI ?_);refine ⟨_,Ja,p,cl,3,Ja,eY,by decide,by decide,fun r3 H3 r30 r33 s3 oo=>?_⟩;refine ⟨rfl,_,Ja,?_⟩;have fy:SB [p] H H3:=(s1.trans s2).trans s3;refine ite2 (fun _=>?_) (fun _=>?_)
 ·obtain ⟨c0,ec0⟩:∃ c0,st.cps.toList[0]?=some c0:=⟨_,Kp (by rw [jO.1]; omega)⟩;have V1:=jO.2 c0 (Qu ec0)
  let wA:Nat->Str:=fun i=>Txt.mul ⟨#[c0]⟩ ((m-i:Nat):Int)
  have lA:∀ i,jN (wA i) (m-i):=fun i=>jN.mul _ V1;refine ⟨_,Ja,_,Ja,by omega,by omega,fun D hD=>?_⟩;rw [Int.toNat_natCast];refine oU walk_range hD (by omega) (fun i us _=>us=((List.range i).map wA).map V.str) rfl (fun _ _=>trivial) (fun _ _ _ _ _ h=>h) (fun Pv i x Hx H' us hi sx y hR hl fin _=>?_) (fun us Hx sx Ws hR hl=>?_)
  ·obtain ⟨rfl,rfl⟩:=y;have e1:(m:Int)-(0+(i:Int))=((m-i:Nat):Int):=by omega
   refine ⟨rfl,?_⟩;refine ⟨_,Ja,st,0,c0,Ja,Ja,by omega,QD (j:=0) ec0,_,Ja,_,Ja,_,_,Ja,Ja,⟨#[c0]⟩,m-i,Ja,congrArg V.int e1,by omega,by show 1<=1000; decide,?_⟩;refine fin _ _ SB.refl ?_;rw [hR,List.range_succ,Yj,Yj]
   rfl
  ·subst hR;refine q D _ Hx (fy.trans sx.nil) (oo.sb sx) (fy.kS _ hD) Ws (by simp) (nodup_range fun i j hi hj hn e=>?_) (fun k hk=>?_)
   ·have e1:=(lA i).1;rw [e,(lA j).1] at e1;omega
   ·obtain ⟨i,hi,rfl⟩:=Qx hk;have hi:=List.mem_range.mp hi;exact (lA i).name (by omega) (by omega)
 ·refine ⟨_,Ja,_,Ja,p,cl,_,Ja,oo,by omega,by omega,fun r4 H4 Ra Q0 s4 kN=>?_⟩;obtain ⟨at_,rfl⟩:∃ u:Nat,r4=(u:Int):=⟨r4.toNat,by omega⟩;refine b7 ?_;refine ⟨_,Ja,p,cl,26,Ja,kN,by decide,by decide,fun r5 H5 r50 r5m s5 jh=>?_⟩;obtain ⟨bg,rfl⟩:∃ u:Nat,r5=(u:Int):=⟨r5.toNat,by omega⟩;refine b7 ?_;refine ⟨_,Ja,p,cl,3,Ja,jh,by decide,by decide,fun r6 H6 r60 r6m s6 oN=>?_⟩;obtain ⟨sp,rfl⟩:∃ u:Nat,r6=(u:Int):=⟨r6.toNat,by omega⟩;refine ⟨_,_,Ja,Ja,?_⟩;refine b7 ?_;have me:SB [p] H H6:=((fy.trans s4).trans s5).trans s6
  let wd:Nat->Str:=fun i=>cutS st none (some (at_:Int))++⟨#[97+(bg+i*(1+sp)) % 26]⟩++cutS st (some ((at_+1:Nat):Int)) none
  have la':=(jO.take at_).len;have lb:=(jO.Es (at_+1)).len;have key:∀ i,jN (wd i) (min at_ (1+Bv)+1+(1+Bv-min (at_+1) (1+Bv))):=fun i=>((jO.take at_).append (jN.one (by omega))).append (jO.Es (at_+1));refine ⟨_,Ja,_,Ja,by omega,by omega,fun D hD=>?_⟩;rw [Int.toNat_natCast];refine oU walk_range hD (by omega) (fun i us _=>us=((List.range i).map wd).map V.str) rfl (fun _ _=>trivial) (fun _ _ _ _ _ h=>h) (fun Pv i x Hx H' us hi sx y hR hl fin _=>?_) (fun us Hx sx Ws hR hl=>?_)
  ·obtain ⟨rfl,rfl⟩:=y;have e4:((bg:Int)+(0+(i:Int))*(1+(sp:Int))) % 26=(((bg+i*(1+sp)) % 26:Nat):Int):=by
    rw [Int.zero_add]; push_cast; rfl
   refine ⟨rfl,?_⟩;refine ⟨_,Ja,_,Ja,_,Ja,st,Ja,by omega,_,Ja,_,Ja,_,Ja,_,Ja,_,_,Ja,Ja,.inl ⟨by show (-(2 ^ 64):Int) < 0+(i:Int); omega,by show 0+(i:Int) < 2 ^ 64; omega⟩,_,_,rfl,rfl,_,_,rfl,rfl,(by show (0:Int) < 26; decide),uu,_,97+(bg+i*(1+sp)) % 26,rfl,rfl,Y5,?_,_,_,rfl,rfl,?_,?_⟩
   ·show atI uu.cps.toList (((bg:Int)+(0+(i:Int))*(1+(sp:Int))) % 26)=_;rw [e4];exact QD (zck _ (by omega))
   ·rw [la']; show _+1<=_; omega
   have ea:(at_:Int)+1=((at_+1:Nat):Int):=by omega
   refine ⟨_,Ja,_,Ja,_,_,Ja,Ja,_,Ja,st,Ja,by omega,_,_,Ja,Ja,?_,?_⟩
   ·show (cutS st none (some (at_:Int))++(⟨#[97+(bg+i*(1+sp)) % 26]⟩:Str)).length+(cutS st (some ((at_:Int)+1)) none).length<=sizeLine;have h1:(cutS st none (some (at_:Int))++(⟨#[97+(bg+i*(1+sp)) % 26]⟩:Str)).length=min at_ (1+Bv)+1:=((jO.take at_).append (jN.one (c:=97+(bg+i*(1+sp)) % 26) (by omega))).len;rw [h1,ea,lb]; omega
   refine fin _ _ SB.refl ?_;rw [hR,List.range_succ,Yj,Yj];show _++[V.str (cutS st none (some (at_:Int))++(⟨#[97+(bg+i*(1+sp)) % 26]⟩:Str)++cutS st (some ((at_:Int)+1)) none)]=_;rw [ea]
   rfl
  ·subst hR;refine q D _ Hx (me.trans sx.nil) (oN.sb sx) (me.kS _ hD) Ws (by simp) (nodup_range fun i j hi hj hn e=>?_) (fun k hk=>?_)
   ·have e1:=(jO.take at_).mid (c:=97+(bg+i*(1+sp)) % 26) (b:=cutS st (some ((at_+1:Nat):Int)) none);have e2:=(jO.take at_).mid (c:=97+(bg+j*(1+sp)) % 26) (b:=cutS st (some ((at_+1:Nat):Int)) none);have e':cutS st none (some (at_:Int))++(⟨#[97+(bg+i*(1+sp)) % 26]⟩:Str)++cutS st (some ((at_+1:Nat):Int)) none=cutS st none (some (at_:Int))++(⟨#[97+(bg+j*(1+sp)) % 26]⟩:Str)++cutS st (some ((at_+1:Nat):Int)) none:=e;rw [e',e2] at e1
    injection e1 with e1
    have:sp=0\/sp=1\/sp=2:=by omega
    rcases this with rfl | rfl | rfl <;> omega
   ·obtain ⟨i,hi,rfl⟩:=Qx hk;exact (key i).name (by omega) (by omega)
end
namespace Gr
theorem uJ (h:∀ p ∈ bs,p.1.1 ∈ ns/\Named ns p.1.2):Named ns (tidy bs):=aJ.mpr fun p hp=>by
 have hp:p ∈ rR aO bs:=by rw [<- aK (rR aO bs)]; exact hp
 obtain ⟨q,hq,e⟩:=IE (enc:=aO) _ p hp;rw [<- e];exact h q hq
theorem Bs (h:bs ≠ []) (pos:∀ p ∈ bs,1<=p.2):tidy bs ≠ .nil:=fun e=>by
 cases bs with
 | nil=>exact h rfl
 | cons p r =>
  have h0:rR aO (p::r)=[]:=by rw [<- aK (rR aO (p::r))]; show (tidy _).ps=[]; rw [e]; rfl
  have h1:=Iz (enc:=aO) (p::r) p.1;rw [h0,pC,if_pos rfl] at h1;have h2:=iy (bs:=r) p.1 fun q hq=>by have:=pos q (bI _ hq); omega
  have h3:=pos p (bw ..);simp only [sumE] at h1;omega
end Gr
section
variable {P:Program} {w:World} {K:Qn} {mg:Str->Option Value} {base:Heap} {f:Addr} {fd:FuncData}
abbrev zjb:List Str:=[aa,a9,aX,dY,dX,"_law_kind","_law_within","_law_inner","_law_way",aQ]
theorem gQ:FnScope zjb [aa,a9,aX,dY] (defScope Kc):=fS
theorem zda {ps:List Str}:FnOk P w K mg base CX0 k f fd ps (C8 K 0):=vW fun vs H Q E ⟨_,_,_,_,_,_,_,_,_,h,_⟩=>by omega
theorem zh9 (B:BI mg) (br:Got P w K mg base bK [aa,aQ] (1) (AU)) (qe:Got P w K mg base aW [aa,a9,aX,dY] (n+1) (C8 K n)) (oK:Got P w K mg base bL [dX] (1) (KU K)) (F:Fun K aW aW Kc f fd):FnOk P w K mg base CX0 (n+2) f fd [aa,a9,aX,dY] (C8 K (n+1)):=by
 refine F.ok gQ (fun vs H Q E h=>?_) (fun _ A _ _ H vs Q E hr h=>?_)
 ·obtain ⟨p,nl,cl,ks,m,c,rfl,_⟩:=h
  rfl
 obtain ⟨p,nl,cl,ks,m,c,rfl,hp,⟨hn,np,k8,Dx⟩,hm,m12,c3,c60,q⟩:=h;have bF:=bC hr;refine ⟨_,Qc (ps_set (i:=4) gQ.nd rfl (.inl rfl) (pe_lst Qb))
  (Qc (ps_while PassesOwn.never (PW.pt (Kl (pt_cmpR op_gt (pv 2) Qg (nomark _)) (pw_and1 (pt_cmpR (op_neD (mb hr)) (pv 1) (pe_lst Qb) (nomark _))))) (Qc (ps_set (i:=5) gQ.nd rfl (.inl rfl) (Qm ix_list (pv 1) (aS br (Hm hr) rfl (Qa (pv 0) (Qa (Qs call_len_seq rfl B.len PySem.boot_len (Qa (pv 1) Qb)) Qb))) (fun _ _=>rfl)))
  (Qc (ps_set (i:=6) gQ.nd rfl (.inl rfl) (aS br (Hm hr) rfl (Qa (pv 0) (Qa (pv 2) Qb))))
  (Qc (ps_set (i:=7) gQ.nd rfl (.inl rfl) (aS qe (Hm hr) rfl (Qa (pv 0) (Qa (pv 1) (Qa (pv 6) (Qa (pv 3) Qb))))))
  (Qc (ps_set (i:=8) gQ.nd rfl (.inl rfl) (aS br (Hm hr) rfl (Qa (pv 0) (Qa Qg Qb))))
  (Qc (ps_set (i:=9) gQ.nd rfl (.inl rfl) (Qm ix_list (pe_lst (Qa Qg (Qa Qg (Qa Qg Qb)))) (pe_op op_mod (pv 8) Qg) (fun _ _=>rfl)))
  (Qc (Qr (pt_cmpR op_eq (pv 8) Qg (nomark _)) (Qe (ps_set (i:=9) gQ.nd rfl (.inl rfl) (pe_op Ko Qg (aS br (Hm hr) rfl (Qa (pv 0) (Qa (pv 3) Qb)))))) pss_nil)
  (Qc (Kf (Kn Ki PySem.F.slot_list_append PySem.F.type_list_append mt_append (pv 4) (Qa (Ka (Qa (Ka (Qa (pv 5) (Qa (pv 7) Qb))) (Qa (pv 9) Qb))) Qb)))
  (Qe (ps_set (i:=2) gQ.nd rfl (.inl rfl) (pe_op op_sub (pe_op op_sub (pv 2) Qg) (pv 6))))))))))))
  (Qe (Qj (aS oK (Hm hr) rfl (Qa (pv 4) Qb))))),?_⟩
 have kY:=sizeLine_eq;refine ⟨Z0,fun D nD=>?_⟩;have t1:=Jb nD (.lst []);have rX:=dZ t1;have g9:=hp.sb t1;have pD:=hp.ne nD;have cD:=hp.nc nD;have Ba:=t1.keep _ _ hn aL;have nDl:nl ≠ D:=ne_of_none hn nD;generalize upd H D _=H1 at t1 rX g9 Ba;refine b7 ?_
 let Pv:Nat->L2.St->Hp->Prop:=fun k σ H2=>SB [p,D] H1 H2/\bR H2 p cl/\∃ (us:List V) (acc:List (Tr × Int)) (o5 o6 o7 o8 o9:Option V),σ=[some (.ref p),some (.ref nl),some (.int (k:Int)),some (.int c),some (.ref D),o5,o6,o7,o8,o9]/\H2 D=some (.lst us)/\Bears K H2 Gr.aC us acc/\Gr.tot acc+k<=m/\(k < m->acc ≠ [])/\cE acc<=acc.length*c/\∀ x ∈ acc,(dN x.1.1/\x.1.2.Ok (m*c+1)/\1<=x.2)/\x.1.2.deep < m/\x.1.1 ∈ ks/\Gr.Named ks x.1.2
 refine ⟨Pv,⟨m,SB.refl,g9,[],[],none,none,none,none,none,Ja,rX,.nil,by show 0+m<=m; omega,fun h=>by omega,by simp [cE],fun x hx=>nomatch hx⟩,fun k σ H2 h=>?_⟩;obtain ⟨s2,eY,us,acc,o5,o6,o7,o8,o9,rfl,bj,dv,tk,ne,al,good⟩:=h;have tA:=s2.keep _ _ Ba (by simp [np,nDl]);have ygn:=Gr.qO acc;have usl:=dv.length;have done:(k=0\/ks=[])->∀ H3,SB [] H2 H3->tRet (tCall (KU K) [] E0 (tCons (tVar 4) tNil)) { nx:=fun x H'=>Q V.non H',rt:=Q } [some (.ref p),some (.ref nl),some (.int (k:Int)),some (.int c),some (.ref D),o5,o6,o7,o8,o9] H3:=fun Vm H3 s3=>by
  have b0:=s3.keep _ _ bj aL;have fy:SB [p] H H3:=((t1.nil.trans (s2.trans s3.nil)).mono (qs:=[D,p]) (by simp)).drop nD;refine ⟨_,Ja,D,us,acc,Ja,.inl (SqL.of b0),dv.sb s3 Gr.aj,by omega,⟨m*c+1,fun x hx=>⟨(good x hx).1.1,(good x hx).1.2.1,by have:=(good x hx).2.1; omega⟩⟩,fun v H' s4 hv=>?_⟩;have hle:(acc.length:Int)*c<=(m:Int)*c:=Int.mul_le_mul_of_nonneg_right (by omega) (by omega);refine q v _ H' (fy.trans s4.nil) ((eY.sb s3).sb s4) hv (Gr.qv (fun x hx=>(good x hx).1) (by omega) (Kw _)) (Yb (Gr.gN acc) (by omega)) (Gr.iW fun x hx=>(good x hx).2.1) (Gr.uJ fun x hx=>(good x hx).2.2) fun m1 kn=>Gr.Bs (ne ?_) fun x hx=>(good x hx).1.2.2;rcases Vm with h | h
  ·omega
  ·exact absurd h kn
 refine ⟨_,Ja,_,_,Ja,Ja,_,Ja,?_⟩;by_cases k0:0 < k
 ·rw [Ya (show (0:Int) < (k:Int) by omega)];refine iteT ?_;refine ⟨_,Ja,Z0,fun e0 BP=>?_⟩;have t3:=Jb BP (.lst []);have DL:SqL K (upd H2 e0 (.lst [])) e0 []:=SqL.of Qt;have xQ:=t3.keep _ _ tA aL;have oo:=eY.sb t3;have b0:=t3.keep _ _ bj aL;generalize upd H2 e0 _=H3 at t3 DL xQ oo b0;refine ⟨.list (ks.map .str),.list [],Dp.lst (SqL.of xQ) (z6y _).dp,Dp.lst DL .nil,z8r Dx,by decide +kernel,_,Ja,?_⟩;rw [zel];by_cases kn:ks=[]
  ·rw [Ya kn];exact done (.inr kn) H3 t3
  rw [Qz kn];have kl:0 < ks.length:=List.length_pos_iff.mpr kn;refine ⟨fun σ' H'=>∃ k',k' < k/\Pv k' σ' H',fun σ' H' z=>z,?_⟩;refine ⟨_,Ja,_,Ja,_,Ja,nl,_,Ja,.inl (SqL.of xQ),p,cl,_,Ja,oo,by rw [Ye]; omega,by rw [Ye]; omega,fun r4 H4 Ra Q0 s4 kN=>?_⟩;obtain ⟨u,rfl⟩:∃ u:Nat,r4=(u:Int):=⟨r4.toNat,by omega⟩;rw [Ye] at Q0;have eu:ks[u]?=some ks[u]:=Kp (by omega);generalize hkk:ks[u]=kk at eu;have kkm:=Qu eu;have RB:=s4.keep _ _ xQ (by simp [np]);refine ⟨nl,_,_,_,Ja,Ja,SqL.of RB,atI_nat (j:=u) (by rw [List.getElem?_map,eu]; rfl),?_⟩;refine b7 ?_;refine ⟨_,Ja,_,Ja,p,cl,_,Ja,kN,by omega,by omega,fun r5 H5 r50 r5m s5 jh=>?_⟩;obtain ⟨wn,rfl⟩:∃ u:Nat,r5=(u:Int):=⟨r5.toNat,by omega⟩;refine b7 ?_;have Mv:=s5.keep _ _ RB (by simp [np]);refine ⟨_,Ja,_,Ja,_,Ja,_,Ja,p,nl,cl,ks,wn,c,Ja,jh,⟨Mv,np,k8,Dx⟩,by omega,by omega,c3,c60,fun v g H6 s6 oN hg RX gpt gdp rG _=>?_⟩;refine b7 ?_;refine ⟨_,Ja,p,cl,4,Ja,oN,by decide,by decide,fun wy H7 wy0 wy4 s7 oM=>?_⟩;refine b7 ?_;refine ⟨Z3,fun L nL=>?_⟩;have t8:=Jb nL (.lst [.int 1,.int 2,.int 3]);have DX:=dZ t8;have pQ:=oM.sb t8;generalize upd H7 L _=H8 at t8 DX pQ;obtain ⟨mv,OG,Rj,mv3⟩:∃ mv:Int,atI [V.int 1,V.int 2,V.int 3] (wy % 3)=some (.int mv)/\1<=mv/\mv<=3:=by
   rcases (by omega:wy % 3=0\/wy % 3=1\/wy % 3=2) with z | z | z <;> rw [z]
   ·exact ⟨1,Ja,by omega,by omega⟩
   ·exact ⟨2,Ja,by omega,by omega⟩
   ·exact ⟨3,Ja,by omega,by omega⟩
  refine ⟨_,Ja,_,_,Ja,Ja,(by show (0:Int) < 3; decide),L,_,_,_,rfl,rfl,SqL.of DX,OG,?_⟩;refine b7 ?_;have s38:SB [p] H3 H8:=(((s4.trans s5).trans s6).trans s7).trans t8.nil;have E6:SB [p] H6 H8:=s7.trans t8.nil;dsimp only;refine AS (fun σ' G=>∃ mz:Int,σ'=[some (.ref p),some (.ref nl),some (.int (k:Int)),some (.int c),some (.ref D),some (.str kk),some (.int (wn:Int)),some v,some (.int wy),some (.int mz)]/\SB [p] H8 G/\bR G p cl/\1<=mz/\mz<=c) (fun nx ji=>?_) (fun σ' G h=>?_)
  ·refine ⟨_,Ja,Ja,_,Ja,?_⟩;cases decide (V.int wy=V.int 3) with
   | false=>exact iteF (ji _ _ ⟨mv,Ja,SB.refl,pQ,by omega,by omega⟩)
   | true =>
    refine iteT ⟨_,Ja,_,Ja,p,cl,_,Ja,pQ,by omega,Int.lt_of_le_of_lt c60 (by decide +kernel),fun r9 H9 r90 r9m s9 vy=>?_⟩;exact ⟨_,_,Ja,Ja,b7 (ji _ _ ⟨1+r9,Ja,s9,vy,by omega,by omega⟩)⟩
  obtain ⟨mz,rfl,s9,vy,mz1,mzc⟩:=h;have s39:SB [p] H3 G:=s38.trans s9;have A3:SB [p] H6 G:=E6.trans s9;have hD9:=s39.keep _ _ b0 (by simpa using fun z:D=p=>pD z.symm);have Co:=hg.sb A3;refine ⟨_,Ja,.inl ⟨rfl,_,SqL.of hD9⟩,_,Ja,_,Ja,dU,fun T1 n1=>?_⟩;have gO:=Jb n1 (.tup [.str kk,v]);have pV:=gA (K:=K) gO;have CH:=gO.keep _ _ hD9 aL;have jG:=vy.sb gO;have MN:=Co.sb gO;generalize upd G T1 _=mP at gO pV CH jG MN;refine ⟨_,Ja,dU,fun T2 n2=>?_⟩;have kM:=Jb n2 (.tup [.ref T1,.int mz]);have ou:=gA (K:=K) kM;have oy:=kM.aH pV;have GO:=kM.keep _ _ CH aL;have rA:=jG.sb kM;have MM:=MN.sb kM;generalize upd mP T2 _=vP at kM ou oy GO rA MM;refine ⟨D,us,_,Ja,Ja,GO,by omega,?_⟩;have hY:=SB.set (ps:=[D]) GO (by simp) (.lst (us++[.ref T2]));have ND:upd vP D (.lst (us++[.ref T2])) D=some (.lst (us++[.ref T2])):=Qt;have Cf:=rA.keep hY (by simpa using pD) (by simpa using cD);generalize upd vP D _=Ey at hY ND Cf;have Lw:SB [p] H2 vP:=(t3.nil.trans s39).trans (gO.trans kM).nil;have TZ:SB [p,D] H2 Ey:=(Lw.mono (by simp)).trans (hY.mono (by simp));refine ⟨_,Ja,_,_,Ja,Ja,_,Ja,_,_,Ja,Ja,?_⟩;have ek:(k:Int)-1-(wn:Int)=((k-1-wn:Nat):Int):=by omega
  refine b7 ⟨k-1-wn,by omega,s2.trans TZ,Cf,us++[.ref T2],acc++[((kk,g),mz)],_,_,_,_,_,by rw [<- ek]; rfl,ND,?_,?_,fun _=>by simp,?_,fun x hx=>?_⟩
  ·exact ((dv.sb Lw Gr.aj).sb hY Gr.aj).append (.cons (Dp.tup (hY.aH ou) (.cons (Dp.tup (hY.aH oy) (.cons (.str _) (.cons (MM.sb hY) .nil))) (.cons (.int _) .nil))) .nil)
  ·rw [Gr.aT];have:Gr.tot [((kk,g),mz)]=1+g.parts+0:=rfl;omega
  ·rw [Lf,Yf,Yi];have h1:cE [((kk,g),mz)]=mz+0:=rfl;have h2:((acc.length+1:Nat):Int)*c=acc.length*c+c:=by rw [Int.natCast_add,Int.add_mul]; simp
   omega
  ·rcases Qw hx with hx | hx
   ·exact good x hx
   ·rw [Qy hx];have hle:(wn:Int)*c<=(m:Int)*c:=Int.mul_le_mul_of_nonneg_right (by omega) (by omega);exact ⟨⟨Dx kk kkm,RX.mono (by omega),mz1⟩,by show g.deep < m; omega,kkm,rG⟩
 ·rw [Qz (show ¬ (0:Int) < (k:Int) by omega)];exact iteF (done (.inl (by omega)) H2 SB.refl)
abbrev XA:List Str:=[aa,uA,a9,aw,"_law_k",df,"_law_rules","_law_spreads","_law_turn",aX,"_law_each","_law_once"]
theorem iz:FnScope XA [aa,uA] (defScope yR):=fS
theorem zky (B:BI mg) (Pn:Got P w K mg base fq [aa,aQ] (2) (ZR K)) (br:Got P w K mg base bK [aa,aQ] (1) (AU)) (qe:Got P w K mg base aW [aa,a9,aX,dY] (14) (C8 K 13)) (F:Fun K cb cb yR f fd):FnOk P w K mg base CX0 (16) f fd [aa,uA] (Ze K):=by
 refine F.ok iz (fun vs H Q E h=>?_) (fun _ A _ _ H vs Q E hr h=>?_)
 ·obtain ⟨p,cl,m,rfl,_⟩:=h
  rfl
 obtain ⟨p,cl,m,rfl,hp,m1,m6,q⟩:=h;have bF:=bC hr;refine ⟨_,Qc (ps_set (i:=2) iz.nd rfl (.inl rfl) (aS Pn (Hm hr) rfl (Qa (pv 0) (Qa (pe_op Ko Qg (aS br (Hm hr) rfl (Qa (pv 0) (Qa (pv 1) Qb)))) Qb))))
  (Qc (ps_set (i:=3) iz.nd rfl (.inl rfl) pe_dnewK)
  (Qc (ps_for PassesOwn.never rfl (pi_enum rfl B.enumerate (Qa (pv 2) Qb)) (pg_tup rfl (Qi (pg_name (i:=4) iz.nd rfl (.inl rfl)) (Qi (pg_name (i:=5) iz.nd rfl (.inl rfl)) pgs_nil)))
   (Qc (ps_set (i:=6) iz.nd rfl (.inl rfl) (pe_lst Qb))
  (Qc (ps_set (i:=7) iz.nd rfl (.inl rfl) (pe_cmpR op_eq (aS br (Hm hr) rfl (Qa (pv 0) (Qa Qg Qb))) Qg (nomark _)))
  (Qc (ps_for PassesOwn.never rfl (pi_range1 rfl B.range (Qa (Qm ix_list (pe_lst (Qa Qg (Qa Qg (Qa Qg (Qa Qg (Qa Qg Qb)))))) (aS br (Hm hr) rfl (Qa (pv 0) (Qa Qg Qb))) (fun _ _=>rfl)) Qb)) (pg_name (i:=8) iz.nd rfl (.inl rfl))
   (Qc (ps_set (i:=9) iz.nd rfl (.inl rfl) (aS br (Hm hr) rfl (Qa (pv 0) (Qa Qg Qb))))
  (Qc (ps_set (i:=10) iz.nd rfl (.inl rfl) (aS br (Hm hr) rfl (Qa (pv 0) (Qa (pe_op Ko (pv 9) Qg) Qb))))
  (Qc (ps_set (i:=11) iz.nd rfl (.inl rfl) (aS qe (Hm hr) rfl (Qa (pv 0) (Qa (pe_slice sl_list (pv 2) po_none (po_some (pv 4))) (Qa (pe_op op_sub (pv 9) (pv 10)) (Qa (pe_op op_mul Qg (pe_op op_pow Qg Qg)) Qb))))))
  (Qe (Kf (Kn Ki PySem.F.slot_list_append PySem.F.type_list_append mt_append (pv 6) (Qa (Ka (Qa (pv 11) (Qa (aS qe (Hm hr) rfl (Qa (pv 0) (Qa (pe_slice sl_list (pv 2) po_none (po_some (pv 4))) (Qa (pv 10) (Qa (pe_op op_mul Qg (pe_op op_pow Qg Qg)) Qb))))) Qb))) Qb))))))))
  (Qe (ps_dput (u1 hr) (pv 3) (pv 5) (Ka (Qa (pv 7) (Qa (pv 6) Qb))) rfl))))))
  (Qe (Qj (pv 3))))),?_⟩
 have kY:=sizeLine_eq;refine ⟨_,Ja,_,Ja,_,Ja,p,cl,_,Ja,hp,by omega,by omega,fun r1 H1 Dm r1m s1 g9=>?_⟩;obtain ⟨mn,rfl⟩:∃ u:Nat,r1=(u:Int):=⟨r1.toNat,by omega⟩;have em:(1:Int)+(mn:Int)=((1+mn:Nat):Int):=by omega
 refine ⟨_,_,Ja,Ja,p,cl,1+mn,(by show [V.ref p,V.int ((1:Int)+(mn:Int))]=_; rw [em]),g9,by omega,by omega,fun nl ks H2 s2 eY nnl tA kl knd Dx=>?_⟩;refine b7 ?_;have IS:nl ≠ p:=fun z=>g9.ne nnl z.symm;intro D nD;have t3:=Jb nD (.dK []);have b0:upd H2 D (.dK []) D=some (.dK (j9 (Bk.names []) [])):=Qt;have xQ:=t3.keep _ _ tA aL;have oo:=eY.sb t3;have pD:=eY.ne nD;have cD:=eY.nc nD;have nlD:nl ≠ D:=ne_of_none tA nD;have fy:SB [p] H (upd H2 D (.dK [])):=(s1.trans s2).trans t3.nil;have Ri:H D=none:=(s1.trans s2).kS _ nD;generalize upd H2 D _=H3 at t3 b0 xQ oo fy;refine b7 ?_;refine ⟨_,Ja,nl,_,Ja,SqL.of xQ,?_⟩;refine for_it (walk_enum (K:=K) (a:=nl) (xs:=ks.map V.str)) (fun i σ H4=>SB [p,D] H3 H4/\bR H4 p cl/\∃ (us:List V) (b:Bk) (o4 o5 o6 o7 o8 o9 yf Fo:Option V),σ=[some (.ref p),some (.int (m:Int)),some (.ref nl),some (.ref D),o4,o5,o6,o7,o8,o9,yf,Fo]/\H4 D=some (.dK (j9 b.names us))/\z0s (Ex K H4) us b/\b.names=ks.take i/\(∀ k ∈ b,k.rs.length<=4/\∀ r ∈ k.rs,eW r/\r.1.parts+r.2.parts<=3)/\∀ (j:Nat) (k:Kd),b[j]?=some k->∀ r ∈ k.rs,∀ x ∈ Ru.within r,x.1.1 ∈ ks.take j)
  ⟨SB.refl,oo,[],[],none,none,none,none,none,none,none,none,rfl,b0,.nil,by simp,(fun k hk=>nomatch hk),(fun j k h=>by simp at h)⟩ (fun i σ H4 hi h=>h.1.fG (by simp [IS,nlD]) (SqL.of xQ)) (fun i x σ H4 H' hi h y=>?_) (fun σ H4 h=>?_)
 ·obtain ⟨s4,kN,us,b,o4,o5,o6,o7,o8,o9,yf,Fo,rfl,i6,ff,bn,good,R5⟩:=h;obtain ⟨T,x1,y1,rfl,hT,rfl,ex,ey⟩:=y;have ex:some (V.int (i:Nat))=some x1:=ex;cases ex;have ey:(ks.map V.str)[i]?=some y1:=ey;rw [List.getElem?_map] at ey;rw [Ye] at hi;obtain ⟨nm,en,rfl⟩:=Kr ey;have RB:=s4.keep _ _ xQ (by simp [IS,nlD]);have t5:=Jb hT (.tup [.int (i:Nat),.str nm]);have DU:=dZ t5;have jh:=kN.sb t5;have Mv:=t5.keep _ _ RB aL;have d7:=t5.keep _ _ i6 aL;generalize upd H4 T _=H5 at t5 DU jh Mv d7;refine ⟨T,_,Ja,SqT.of DU,Ja,_,_,Ja,_,_,Ja,Ja,?_⟩;refine ⟨Z0,fun R nR=>?_⟩;have t6:=Jb nR (.lst []);have DV:=dZ t6;have oN:=jh.sb t6;have hn6:=t6.keep _ _ Mv aL;have hV:=t6.keep _ _ d7 aL;have pR:=jh.ne nR;have cR:=jh.nc nR;have nlR:nl ≠ R:=ne_of_none Mv nR;have DR:D ≠ R:=ne_of_none d7 nR;generalize upd H5 R _=H6 at t6 DV oN hn6 hV;refine b7 ?_;refine ⟨_,Ja,p,cl,2,Ja,oN,by decide,by decide,fun r7 H7 _ _ s7 oM=>?_⟩;refine ⟨rfl,?_⟩;generalize decide (V.int r7=V.int 1)=wd;refine b7 ?_;refine ⟨by show 5<=sizeLine; decide,fun L nL=>?_⟩;have t8:=Jb nL (.lst [.int 0,.int 1,.int 1,.int 2,.int 3]);have DX:=dZ t8;have pQ:=oM.sb t8;have Lp:=oM.ne nL;generalize upd H7 L _=H8 at t8 DX pQ;refine ⟨_,Ja,p,cl,5,Ja,pQ,by decide,by decide,fun r9 H9 r90 r95 s9 vy=>?_⟩;obtain ⟨ct,ect,ct3⟩:∃ ct:Nat,atI [V.int 0,.int 1,.int 1,.int 2,.int 3] r9=some (.int (ct:Int))/\ct<=3:=by
   rcases (by omega:r9=0\/r9=1\/r9=2\/r9=3\/r9=4) with h | h | h | h | h <;> subst h
   ·exact ⟨0,Ja,by omega⟩
   ·exact ⟨1,Ja,by omega⟩
   ·exact ⟨1,Ja,by omega⟩
   ·exact ⟨2,Ja,by omega⟩
   ·exact ⟨3,Ja,by omega⟩
  have A3:SB [p] H6 H9:=(s7.trans t8.nil).trans s9;refine ⟨L,_,_,_,Ja,Ja,SqL.of (s9.keep _ _ DX (by simpa using fun z:L=p=>Lp z.symm)),ect,(ct:Int),Ja,by omega,by omega,?_⟩;rw [Int.toNat_natCast];have hR9:=A3.keep _ _ DV (by simpa using fun z:R=p=>pR z.symm);refine for_it walk_range (fun j σ Ha=>SB [R,p] H9 Ha/\bR Ha p cl/\∃ (vs:List V) (rs:List Ru) (o8 o9 yf Fo:Option V),σ=[some (.ref p),some (.int (m:Int)),some (.ref nl),some (.ref D),some (.int (i:Int)),some (.str nm),some (.ref R),some (.bl wd),o8,o9,yf,Fo]/\Ha R=some (.lst vs)/\Bears K Ha Ru.enc vs rs/\rs.length<=j/\∀ r ∈ rs,eW r/\r.1.parts+r.2.parts<=3/\∀ x ∈ Ru.within r,x.1.1 ∈ ks.take i)
   ⟨SB.refl,vy,[],[],_,_,_,_,rfl,hR9,.nil,Yc _,fun r hr=>nomatch hr⟩ (fun _ _ _ _ _=>trivial) (fun j x σ Ha H' hj h8 y=>?_) (fun σ Ha h8=>?_)
  ·obtain ⟨sa,F4,vs,rs,o8,o9,yf,Fo,rfl,RK,gS,rl,vt⟩:=h8;obtain ⟨rfl,rfl⟩:=y;have hna:H' nl=some (.lst (ks.map V.str)):=sa.keep _ _ (A3.keep _ _ hn6 (by simpa using IS)) (by simp [nlR,IS]);refine Sm ?_;refine ⟨_,Ja,p,cl,4,Ja,F4,by decide,by decide,fun rm Hb rm0 rm4 sb vw=>?_⟩;obtain ⟨pm,rfl⟩:∃ u:Nat,rm=(u:Int):=⟨rm.toNat,by omega⟩;refine b7 ?_;refine ⟨_,Ja,_,Ja,_,_,Ja,Ja,p,cl,(pm:Int)+1,Ja,vw,by omega,by omega,fun re Hc re0 rem sc A8=>?_⟩;obtain ⟨eh,rfl⟩:∃ u:Nat,re=(u:Int):=⟨re.toNat,by omega⟩;refine b7 ?_;have sac:SB [p] H' Hc:=sb.trans sc;have hnc:=sac.keep _ _ hna (by simpa using IS);have e8:(3:Int)*10 ^ (8:Int).toNat=300000000:=by decide
   have kt:∀ x ∈ ks.take i,dN x:=fun x hx=>Dx x (List.mem_of_mem_take hx);have ktl:(ks.take i).length<=8:=by rw [Kx]; omega
   refine ⟨_,Ja,_,Ja,_,Ja,_,Ja,nl,_,Ja,SqL.of hnc,fun S nS=>?_⟩;have gO:=Jb nS (.lst (cutV (ks.map V.str) none (some (i:Int))));have hS:upd Hc S (.lst (cutV (ks.map V.str) none (some (i:Int)))) S=some (.lst ((ks.take i).map V.str)):=by rw [Qt,P5,List.map_take]
   have jG:=A8.sb gO;have Sp:S ≠ p:=fun z=>A8.ne nS z.symm;have Vr:=gO.keep _ _ hnc aL;generalize upd Hc S _=Hd at gO hS jG Vr;have emo:(pm:Int)-(eh:Int)=((pm-eh:Nat):Int):=by omega
   refine ⟨_,Ja,_,Ja,_,_,Ja,Ja,10,8,Ja,Ja,⟨by decide,by decide⟩,_,_,Ja,Ja,.inl ⟨by decide,by decide⟩,p,S,cl,ks.take i,pm-eh,300000000,(by show [V.ref p,V.ref S,V.int ((pm:Int)-(eh:Int)),V.int (3*10 ^ (8:Int).toNat)]=_; rw [emo,e8]),jG,⟨hS,Sp,ktl,kt⟩,by omega,by omega,by decide,by decide,fun v1 g1 He se hpe MP ok1 pt1 dp1 nm1 _=>?_⟩;refine b7 ?_;have TQ:SB [p] H' He:=(sac.trans gO.nil).trans se;have hRe:=TQ.keep _ _ RK (by simpa using fun z:R=p=>pR z.symm);have vz:=TQ.keep _ _ hna (by simpa using IS);refine ⟨_,Ja,.inl ⟨rfl,_,SqL.of hRe⟩,_,Ja,_,Ja,_,Ja,_,Ja,_,Ja,nl,_,Ja,SqL.of vz,fun S2 nS2=>?_⟩;have kM:=Jb nS2 (.lst (cutV (ks.map V.str) none (some (i:Int))));have RJ:upd He S2 (.lst (cutV (ks.map V.str) none (some (i:Int)))) S2=some (.lst ((ks.take i).map V.str)):=by rw [Qt,P5,List.map_take]
   have rA:=hpe.sb kM;have S2p:S2 ≠ p:=fun z=>hpe.ne nS2 z.symm;have Wf:=kM.keep _ _ hRe aL;generalize upd He S2 _=Hf at kM RJ rA Wf;refine ⟨_,Ja,10,8,Ja,Ja,⟨by decide,by decide⟩,_,_,Ja,Ja,.inl ⟨by decide,by decide⟩,p,S2,cl,ks.take i,eh,300000000,(by show [V.ref p,V.ref S2,V.int (eh:Int),V.int (3*10 ^ (8:Int).toNat)]=_; rw [e8]),rA,⟨RJ,S2p,ktl,kt⟩,by omega,by omega,by decide,by decide,fun v2 g2 Hg sg hpg Gm ok2 pt2 dp2 nm2 _=>?_⟩;refine ⟨dU,fun T2 BQ=>?_⟩;have TN:SB [p] H' Hg:=(TQ.trans kM.nil).trans sg;have seg:SB [p] He Hg:=kM.nil.trans sg;have hRg:=TN.keep _ _ RK (by simpa using fun z:R=p=>pR z.symm);have kX:=Jb BQ (.tup [v1,v2]);have Nt:=gA (K:=K) kX;have GI:=kX.keep _ _ hRg aL;have GD:=(gS.sb TN Ru.af).sb kX Ru.af;have MO:=GA.sb (GA.sb MP seg) kX;have ML:=GA.sb Gm kX;have zI:=hpg.sb kX;generalize upd Hg T2 _=Hh at kX Nt GI GD MO ML zI;have vl:=GD.length;refine ⟨R,_,_,Ja,Ja,GI,by omega,?_⟩;have yI:=SB.set (ps:=[R]) GI (by simp) (.lst (vs++[.ref T2]));refine ⟨sa.trans (((TN.trans kX.nil).mono (by simp)).trans (yI.mono (by simp))),zI.keep yI (by simpa using pR) (by simpa using cR),vs++[.ref T2],rs++[(g1,g2)],_,_,_,_,Ja,Qt,?_,by rw [Yf,Yi]; omega,fun r hr=>?_⟩
   ·exact (GD.sb yI Ru.af).append (.cons (.tup (yI.aH Nt) (.cons (GA.sb MO yI) (.cons (GA.sb ML yI) .nil))) .nil)
   ·rcases Qw hr with hr | hr
    ·exact vt r hr
    ·rw [Qy hr];refine ⟨⟨ok1.mono (by omega),ok2.mono (by omega),by show g1.parts+g2.parts<=4; omega⟩,by show g1.parts+g2.parts<=3; omega,fun x hx=>?_⟩;rcases Qw hx with hx | hx
     ·exact nm1 x hx
     ·exact nm2 x hx
  obtain ⟨sa,F4,vs,rs,o8,o9,yf,Fo,rfl,RK,gS,rl,vt⟩:=h8;have s6a:SB [R,p] H6 Ha:=(A3.mono (by simp)).trans sa;have s5a:SB [p] H5 Ha:=((t6.nil (ps:=[R,p])).trans s6a).drop nR;have hDa:=s5a.keep _ _ d7 (by simpa using fun z:D=p=>pD z.symm);refine ⟨_,Ja,_,Ja,dU,fun T3 UL=>?_⟩;have yH:=Jb UL (.tup [.bl wd,.ref R]);have Nr:=gA (K:=K) yH;have RT:=yH.keep _ _ hDa aL;have hRb:=yH.keep _ _ RK aL;have fQ:=gS.sb yH Ru.af;have vw:=F4.sb yH;have TX:SB [p] H4 (upd Ha T3 (.tup [.bl wd,.ref R])):=((t5.nil (ps:=[p])).trans s5a).trans yH.nil;generalize upd Ha T3 _=Hb at yH Nr RT hRb fQ vw TX;have ul:=ff.length;have bl:b.names.length=i:=by rw [bn,Kx]; omega
  have bl2:b.length=i:=by rw [<- bl]; exact (List.length_map ..).symm
  have fresh:nm ∉ b.names:=fun z=>by
   rw [bn] at z;obtain ⟨j,hj,ej⟩:=List.getElem_of_mem z;rw [List.getElem_take] at ej;rw [Kx] at hj;obtain ⟨Gi,e2⟩:=List.getElem_of_getElem? en;exact List.pairwise_iff_getElem.mp knd j i (by omega) Gi (by omega) (ej.trans e2.symm)
  have zl:(j9 b.names us).length < sizeLine:=by
   show (List.zipWith _ _ _).length < _;rw [List.length_zipWith]; omega
  refine ⟨_,Ja,_,Ja,D,_,Ja,DPut.k (k:=Sum.inr nm) RT zl,?_⟩;have qx:=SB.lh (ps:=[D]) RT (by simp) (.dK (putK (j9 b.names us) (Sum.inr nm) (.ref T3)));have hDc:upd Hb D (.dK (putK (j9 b.names us) (Sum.inr nm) (.ref T3))) D=some (.dK (j9 (Bk.names (b++[⟨nm,wd,rs⟩])) (us++[.ref T3]))):=by
   rw [Qt,zev (by rw [ul,bl2,bl]) fresh];show _=some (HO.dK (j9 (List.map _ (b++[_])) _));rw [Yj]; rfl
  have RD:R ≠ D:=fun z=>DR z.symm;have Cd:=vw.keep qx (by simpa using pD) (by simpa using cD);have noD:kE Hb [D]:=kE.one RT;have BN:kE H4 [p]:=by obtain ⟨aU,h⟩:=kN.IW; exact kE.one h
  refine ⟨s4.trans ((TX.mono (by simp)).trans (qx.mono (by simp))),Cd,us++[.ref T3],b++[⟨nm,wd,rs⟩],_,_,_,_,_,_,_,_,Ja,hDc,?_,?_,fun k hk=>?_,fun j k Gh=>?_⟩
  ·refine (ff.mono fun v k h=>(h.sb TX BN).sb qx noD).append (.cons ⟨T3,R,vs,Ja,qx.aH Nr,qx.keep _ _ hRb (by simpa using RD),fQ.sb qx Ru.af⟩ .nil)
  ·rw [Bk.names,Yj,Yg,en];show Bk.names b++[nm]=_;rw [bn]; rfl
  ·rcases Qw hk with hk | hk
   ·exact good k hk
   ·rw [Qy hk]; exact ⟨by show rs.length<=4; omega,fun r hr=>⟨(vt r hr).1,(vt r hr).2.1⟩⟩
  ·rcases Nat.lt_or_ge j b.length with h | h
   ·rw [List.getElem?_append_left h] at Gh;exact R5 j k Gh
   ·rw [List.getElem?_append_right h] at Gh;have hj0:j-b.length=0:=by
     rcases Nat.eq_zero_or_pos (j-b.length) with z | z
     ·exact z
     ·rw [List.getElem?_eq_none (by rw [Yi]; omega)] at Gh; cases Gh
    rw [hj0] at Gh;cases Gh;have:j=i:=by omega
    subst this;exact fun r hr=>(vt r hr).2.2
 ·obtain ⟨s4,kN,us,b,o4,o5,o6,o7,o8,o9,yf,Fo,rfl,i6,ff,bn,good,R5⟩:=h;rw [Ye,Yh] at bn;have bl:b.length=ks.length:=by rw [<- bn]; exact (List.length_map ..).symm
  have vA:∀ k ∈ b,k.n ∈ ks:=fun k hk=>by rw [<- bn]; exact Ku ⟨k,hk,Ja⟩
  have mf:SB [p] H H4:=((fy.mono (qs:=[D,p]) (by simp)).trans (s4.mono (by simp))).drop Ri;refine ⟨_,Ja,q D b H4 mf kN Ri (fun z=>pD z.symm) ⟨us,i6,ff⟩ ⟨⟨by omega,by omega,by rw [bn]; exact knd,fun k hk=>⟨Dx _ (vA k hk),(good k hk).1,fun r hr=>⟨((good k hk).2 r hr).1,fun x hx=>?_⟩⟩⟩,by omega,fun i k e r hr x hx=>?_,fun k hk r hr=>((good k hk).2 r hr).2⟩⟩
  ·obtain ⟨j,e⟩:=List.getElem?_of_mem hk;rw [bn];exact List.mem_of_mem_take (R5 j k e r hr x hx)
  ·have:=R5 i k e r hr x hx;rw [Bk.names,List.map_take];rw [<- bn] at this;exact this
end
theorem KdAll.Lo {K:Qn} {H:Hp} {bad:List Addr} {D:Addr} {od:Obj} {aU:List (Key × V)} {u:HO} (h:H D=some (.frz od (.dK aU))):∀ {vs:List V} {b:Bk},KdAll K H bad vs b->KdAll K (upd H D u) bad vs b
 | _,_,.nil=>.nil
 | _,_,.cons ⟨t,l,zs,e1,e2,e3,e4,e5⟩ r=>.cons ⟨t,l,zs,e1,Zq h _ _ e2,by rw [upd_ne (fun z=>by rw [z,h] at e3; cases e3)]; exact e3,e4.tp (Zq h) Ru.af,e5⟩ (KdAll.Lo h r)
theorem KdAll.rev {K:Qn} {H:Hp} {bad:List Addr}:∀ {vs:List V} {b:Bk},KdAll K H bad vs b->KdAll K H bad vs.reverse b.reverse
 | _,_,.nil=>.nil
 | _,_,.cons h r=>by
  rw [List.reverse_cons,List.reverse_cons];exact (KdAll.rev r).append (.cons h .nil)
section
variable {P:Program} {w:World} {K:Qn} {mg:Str->Option Value} {base:Heap} {f:Addr} {fd:FuncData}
abbrev X7:List Str:=[aw,mQ,"_law_found",df,"_law_spreads","_law_rules"]
theorem ni:FnScope X7 [aw,mQ] (defScope HS):=fS
theorem zhp (B:BI mg) (F:Fun K ft ft HS f fd):FnOk P w K mg base CX0 (1) f fd [aw,mQ] (ZY K):=by
 refine F.ok ni (fun vs H Q E h=>?_) (fun _ A _ s H vs Q E hr h=>?_)
 ·obtain ⟨d,b,t,rfl,_⟩:=h
  rfl
 obtain ⟨d,b,t,rfl,hd,ygl,q⟩:=h;have bF:=bC hr;refine ⟨_,Qc (ps_lock (ps_setLc (i:=2) (own:=[(df,3),("_law_spreads",4),("_law_rules",5)]) (g:=(gTup K 2 (gCons (gName 3) (gCons (gTup K 2 (gCons (gName 4) (gCons (gName 5) gNil))) gNil)))) (tt:=tYes) (te:=(tTup (tCons (tVar 3) (tCons (tVar 4) (tCons (tCB (fun xs H Q=>∃ p ys,xs=[.ref p]/\(SqL K H p ys\/SqT K H p ys)/\∀ l,H l=none->Q (.ref l) (upd H l (.lst ys))) (tCons (tVar 5) tNil)) tNil))))) rfl ni.nd rfl rfl (sw_true rfl rfl rfl (by decide +kernel)) (pi_items (pv 0)) (blkOk_by (N:=X7) (sc:=defScope HS) (by decide +kernel)) (fun _ _ _ _ _=>(pg_tup rfl (Qi (pg_name (i:=3) ni.nd rfl (.inl rfl)) (Qi (pg_tup rfl (Qi (pg_name (i:=4) ni.nd rfl (.inl rfl)) (Qi (pg_name (i:=5) ni.nd rfl (.inl rfl)) pgs_nil))) pgs_nil)))) (fun _ _ _ _ _=>pts_nil) (fun _ _ _ _ _=>(Ka (Qa (pv 3) (Qa (pv 4) (Qa (pe_callTy call_list_of rfl B.list boot_list (Qa (pv 5) Qb)) Qb)))))))
  (Qe (Qj (Qm ix_list (pe_lst (Qa (pv 2) (Qa (pe_revL (pv 2)) Qb))) (pe_callTy call_int1 rfl B.int boot_int (Qa (pv 1) Qb)) (fun _ _=>rfl)))),?_⟩
 have kY:=sizeLine_eq;obtain ⟨us,Cu,ff⟩:=hd;have ul:=ff.length;have kl:(j9 b.names us).length=b.length:=by
  show (List.zipWith _ _ _).length=_;rw [List.length_zipWith,Ye]; omega
 refine ⟨d,_,Cu,trivial,fun od=>?_⟩;have hL:∀ l xs,H l=some (.lst xs)->upd H d (.frz od (.dK (j9 b.names us))) l=some (.lst xs):=fun l xs h=>by rw [upd_ne (fun z=>by rw [z,Cu] at h; cases h)]; exact h
 have hT:∀ a xs,SqT K H a xs->SqT K (upd H d (.frz od (.dK (j9 b.names us)))) a xs:=fun a xs s=>by
  rcases s with (s | ⟨o,s⟩) | s
  ·exact .inl (.inl (by rw [upd_ne (fun z=>by rw [z,Cu] at s; cases s)]; exact s))
  ·exact .inl (.inr ⟨o,by rw [upd_ne (fun z=>by rw [z,Cu] at s; cases s)]; exact s⟩)
  ·exact .inr s
 have Mr:z0s (Ex K (upd H d (.frz od (.dK (j9 b.names us))))) us b:=ff.mono fun v k ⟨t,l,zs,e1,e2,e3,e4⟩=>⟨t,l,zs,e1,hT _ _ e2,hL _ _ e3,e4.tp hT Ru.af⟩;have xS:upd H d (.frz od (.dK (j9 b.names us))) d=some (.frz od (.dK (j9 b.names us))):=Qt;have un:∀ H',SB [] (upd H d (.frz od (.dK (j9 b.names us)))) H'->SB [] H (upd H' d (.dK (j9 b.names us))):=fun H' s=>s.unlock Cu (fun _ z=>nomatch z) (fun _ _ z=>nomatch z);have dm:∀ p,upd H d (.frz od (.dK (j9 b.names us))) p=none->H p=none:=fun p h=>by
  have z:p ≠ d:=fun z=>by rw [z,Qt] at h; cases h
  rwa [upd_ne z] at h
 generalize upd H d _=HL at Mr xS un dm;refine ⟨_,Ja,d,od,_,Ja,xS,fun D nD=>?_⟩;have dD:d ≠ D:=fun z=>by rw [z,nD] at xS; cases xS
 refine lc_it walk_items (fun i H2=>SB [D] HL H2/\∃ ws,H2 D=some (.lst ws)/\KdAll K H2 [D] ws (b.take i)) ⟨SB.new nD _,[],Qt,.nil⟩ (fun i H2 hi h=>h.1.frzs _ _ _ xS) (fun i x H2 H' hi h y=>?_) (fun H2 h=>?_)
 ·obtain ⟨s2,ws,bj,Bc⟩:=h;obtain ⟨T,x1,y1,rfl,hTn,rfl,ex,ey⟩:=y;have hib:i < b.length:=by rw [kl] at hi; exact hi
  obtain ⟨k,ek⟩:∃ k,b[i]?=some k:=⟨_,Kp hib⟩;obtain ⟨u,eu⟩:∃ u,us[i]?=some u:=⟨_,Kp (by omega)⟩;have enk:b.names[i]?=some k.n:=by rw [List.getElem?_map,ek]; rfl
  have ekv:(j9 b.names us)[i]?=some (Sum.inr k.n,u):=by
   show (List.zipWith _ _ _)[i]?=_;rw [List.getElem?_zipWith,enk,eu]
  have ex:(j9 b.names us)[i]?.map (fun kv:Key × V=>kV kv.1)=some x1:=ex;have ey:(j9 b.names us)[i]?.map Prod.snd=some y1:=ey;rw [ekv] at ex ey;cases ex;cases ey;obtain ⟨k',ek',tt,l,zs,e1,e2,e3,e4⟩:=Mr.get eu;rw [ek] at ek';cases ek';have e1:u=.ref tt:=e1;subst e1;have t3:=Jb hTn (.tup [kV (Sum.inr k.n),.ref tt]);have zU:=dZ t3;have b0:=t3.keep _ _ bj aL;have Cm:=Bc.sb t3 dR.nil;have s3:=s2.trans (t3.nil (ps:=[D]));generalize upd H2 T _=H3 at t3 zU b0 Cm s3;have lD:l ≠ D:=fun z=>by rw [z,nD] at e3; cases e3
  have vC:=s3.keep _ _ e3 (by simpa using lD);refine ⟨T,_,Ja,SqT.of zU,Ja,_,_,Ja,_,_,Ja,tt,_,Ja,s3.aH e2,Ja,_,_,Ja,_,_,Ja,Ja,Ja,Ja,?_⟩;refine ⟨_,Ja,_,Ja,_,Ja,l,zs,Ja,.inl (SqL.of vC),fun L2 IT=>?_⟩;have t4:=Jb IT (.lst zs);have DY:=dZ t4;have i6:=t4.keep _ _ b0 aL;have MD:=Cm.sb t4 dR.nil;have s4:=s3.trans (t4.nil (ps:=[D]));have LD:L2 ≠ D:=fun z=>by rw [z,b0] at IT; cases IT
  generalize upd H3 L2 _=H4 at t4 DY i6 MD s4;refine ⟨Z3,fun T2 BQ=>?_⟩;have t5:=Jb BQ (.tup [kV (Sum.inr k.n),.bl k.w,.ref L2]);have DU:SqT K (upd H4 T2 (.tup [kV (Sum.inr k.n),.bl k.w,.ref L2])) T2 [.str k.n,.bl k.w,.ref L2]:=SqT.of Qt;have lZ:=t5.keep _ _ DY aL;have d7:=t5.keep _ _ i6 aL;have Ck:=MD.sb t5 dR.nil;have s5:=s4.trans (t5.nil (ps:=[D]));generalize upd H4 T2 _=H5 at t5 DU lZ d7 Ck s5;have wl:=Ck.length;rw [Kx] at wl;refine ⟨_,d7,by omega,?_⟩;have t6:=SB.set (ps:=[D]) d7 (by simp) (.lst (ws++[.ref T2]));refine ⟨s5.trans t6,_,Qt,?_⟩;rw [Yg,ek];exact (Ck.sb t6 dR.self).append (.cons ⟨T2,L2,zs,Ja,t6.aH DU,t6.keep _ _ lZ (by simpa using LD),(e4.sb s5 Ru.af).sb t6 Ru.af,by simpa using LD⟩ .nil)
 ·obtain ⟨s2,ws,bj,Bc⟩:=h;rw [kl,Yh] at Bc;have hd2:=s2.frzs _ _ _ xS;have j3:SB [] HL H2:=s2.drop nD;have Cm:KdAll K (upd H2 d (.dK (j9 b.names us))) [D] ws b:=Bc.Lo hd2;have b0:upd H2 d (.dK (j9 b.names us)) D=some (.lst ws):=by rw [upd_ne (fun z=>dD z.symm)]; exact bj
  have s3:=un _ j3;have Ri:=dm _ nD;refine b7 ⟨hd2,?_⟩;dsimp only;generalize upd H2 d _=H3 at Cm b0 s3;refine ⟨_,Ja,_,Ja,D,ws,Ja,SqL.of b0,fun p np=>?_⟩;have t4:=Jb np (.lst ws.reverse);have kN:=dZ t4;have i6:=t4.keep _ _ b0 aL;have MD:=(Cm.more np).sb t4 dR.nil;have np0:H p=none:=s3.kS _ np;generalize upd H3 p _=H4 at t4 kN i6 MD;refine ⟨dU,fun L nL=>?_⟩;have t5:=Jb nL (.lst [.ref D,.ref p]);have lZ:=dZ t5;have jh:=t5.keep _ _ kN aL;have d7:=t5.keep _ _ i6 aL;have Ck:=MD.sb t5 dR.nil;generalize upd H4 L _=H5 at t5 lZ jh d7 Ck;have s5:=(s3.trans t4).trans t5;cases t with
  | true=>exact ⟨_,Ja,.inr ⟨_,Ja,L,_,_,_,Ja,Ja,SqL.of lZ,atI_nat (j:=1) rfl,q p _ H5 s5 np0 jh ((Ck.less (bad':=[p]) (by simp)).rev)⟩⟩
  | false=>exact ⟨_,Ja,.inr ⟨_,Ja,L,_,_,_,Ja,Ja,SqL.of lZ,atI_nat (j:=0) rfl,q D _ H5 s5 Ri d7 (Ck.less (bad':=[D]) (by simp))⟩⟩
abbrev zif:List Str:=[aa,aX,"_law_found","_law_within","_law_exponent",aQ]
theorem jC:FnScope zif [aa,aX] (defScope JR):=fS
theorem z4r {ps:List Str}:FnOk P w K mg base CX0 k f fd ps (Iq K 0):=vW fun vs H Q E ⟨p,cl,m,_,_,h,_⟩=>by omega
theorem zgf (B:BI mg) (br:Got P w K mg base bK [aa,aQ] (1) (AU)) (AL:Got P w K mg base bU [aa,aX] (n+42) (Iq K n)) (tW:Got P w K mg base dj [aI,ax] (41) (KP K)) (F:Fun K bU bU JR f fd):FnOk P w K mg base CX0 (n+43) f fd [aa,aX] (Iq K (n+1)):=by
 refine F.ok jC (fun vs H Q E h=>?_) (fun _ A _ _ H vs Q E hr h=>?_)
 ·obtain ⟨p,cl,m,rfl,_⟩:=h
  rfl
 obtain ⟨p,cl,m,rfl,hp,mn,m12,q⟩:=h;have bF:=bC hr;refine ⟨_,Qc (ps_set (i:=2) jC.nd rfl (.inl rfl) (Ka Qb))
  (Qc (ps_while PassesOwn.never (pt_cmpR op_gt (pv 1) Qg (nomark _)) (Qc (ps_set (i:=3) jC.nd rfl (.inl rfl) (aS br (Hm hr) rfl (Qa (pv 0) (Qa (pv 1) Qb))))
  (Qc (ps_set (i:=4) jC.nd rfl (.inl rfl) (aS AL (Hm hr) rfl (Qa (pv 0) (Qa (pv 3) Qb))))
  (Qc (ps_set (i:=5) jC.nd rfl (.inl rfl) (Qm ix_list (pe_lst (Qa Qg (Qa Qg (Qa (pe_op Ko Qg (aS br (Hm hr) rfl (Qa (pv 0) (Qa Qg Qb)))) (Qa (pe_op Ko Qg (aS br (Hm hr) rfl (Qa (pv 0) (Qa (pe_op op_pow Qg Qg) Qb)))) Qb))))) (aS br (Hm hr) rfl (Qa (pv 0) (Qa Qg Qb))) (fun _ _=>rfl)))
  (Qc (ps_set (i:=2) jC.nd rfl (.inl rfl) (aS tW (Hm hr) rfl (Qa (pv 2) (Qa (Ka (Qa (Ka (Qa (pv 4) (Qa (pv 5) Qb))) Qb)) Qb))))
  (Qe (ps_set (i:=1) jC.nd rfl (.inl rfl) (pe_op op_sub (pe_op op_sub (pv 1) Qg) (pv 3)))))))))
  (Qe (Qj (pv 2)))),?_⟩
 refine ⟨Z0,fun e0 BP=>?_⟩;have t0:=Jb BP (.tup []);have Bf:=gA (K:=K) t0;have rV:=hp.sb t0;generalize upd H e0 _=H0 at t0 Bf rV;refine b7 ?_;refine ⟨fun mm σ H2=>∃ (r:Nat) (fv:V) (F:Lad) (o3 o4 o5:Option V),mm=r/\r<=m/\SB [p] H H2/\bR H2 p cl/\σ=[some (.ref p),some (.int (r:Int)),some fv,o3,o4,o5]/\LA K H2 fv F/\F.parts+r<=m/\F.deep<=m/\F.Ok (((m:Int)-r)*(10 ^ 30+1)+1),
  ⟨m,m,.ref e0,.nil,none,none,none,rfl,Yc _,t0.nil,rV,rfl,uf Bf,by show 0+m<=m; omega,Nat.zero_le _,trivial⟩,fun r σ H2 h2=>?_⟩
 obtain ⟨_,fv,F,o3,o4,o5,rfl,rm,s2,eY,rfl,hF,Fp,Fd,Fn⟩:=h2;refine ⟨_,Ja,_,_,Ja,Ja,_,Ja,?_⟩;by_cases hr0:r=0
 ·subst hr0;rw [show decide ((0:Int) < ((0:Nat):Int))=false from Qz (by omega)];refine iteF ⟨_,Ja,q fv F H2 s2 eY hF (by omega) Fd ?_⟩;rw [show (m:Int)-((0:Nat):Int)=m by omega] at Fn;exact Fn
 rw [show decide ((0:Int) < ((r:Nat):Int))=true from Ya (by omega)];refine iteT ⟨_,fun σ' H' h=>h,?_⟩;refine ⟨_,Ja,_,Ja,p,cl,(r:Int),Ja,eY,by omega,by omega,fun w H3 w0 wr s3 oo=>?_⟩;obtain ⟨wn,rfl⟩:∃ x:Nat,w=(x:Int):=⟨w.toNat,by omega⟩;refine b7 ?_;refine ⟨_,Ja,_,Ja,p,cl,wn,Ja,oo,by omega,by omega,fun ev e H4 s4 kN Cp epp edd enm=>?_⟩;refine b7 ?_;refine ⟨_,Ja,p,cl,9,Ja,kN,by decide,by decide,fun r5 H5 r50 r59 s5 jh=>⟨_,_,Ja,Ja,?_⟩⟩;refine ⟨_,Ja,10,30,Ja,Ja,⟨by decide,by decide⟩,p,cl,_,Ja,jh,by decide,by decide,fun r6 H6 r60 r6m s6 oN=>⟨_,_,Ja,Ja,?_⟩⟩;refine ⟨by show 4<=sizeLine; decide,fun L nL=>?_⟩;have t7:=Jb nL (.lst [.int 1,.int 2,.int (1+r5),.int (1+r6)]);have RM:=dZ t7;have oM:=oN.sb t7;have Lp:L ≠ p:=fun z=>oN.ne nL z.symm;generalize upd H6 L _=H7 at t7 RM oM;refine ⟨_,Ja,p,cl,4,Ja,oM,by decide,by decide,fun r8 H8 r80 r84 s8 pQ=>?_⟩;have e30:(10:Int) ^ (30:Int).toNat=10 ^ 30:=rfl;rw [e30] at r6m;obtain ⟨mv,OG,Rj,mv2⟩:∃ mv:Int,atI [V.int 1,V.int 2,V.int (1+r5),V.int (1+r6)] r8=some (.int mv)/\1<=mv/\mv<=10 ^ 30:=by
  rcases (by omega:r8=0\/r8=1\/r8=2\/r8=3) with rfl | rfl | rfl | rfl
  ·exact ⟨1,Ja,by omega,by omega⟩
  ·exact ⟨2,Ja,by omega,by omega⟩
  ·exact ⟨1+r5,Ja,by omega,by omega⟩
  ·exact ⟨1+r6,Ja,by omega,by omega⟩
 refine ⟨L,_,_,_,Ja,Ja,SqL.of (s8.keep _ _ RM (by simpa using Lp)),OG,?_⟩;refine b7 ?_;have QW:SB [p] H2 H8:=((((s3.trans s4).trans s5).trans s6).trans t7.nil).trans s8;have s48:SB [p] H4 H8:=((s5.trans s6).trans t7.nil).trans s8;refine ⟨_,Ja,_,Ja,_,Ja,dU,fun T1 n1=>?_⟩;have t9:=Jb n1 (.tup [ev,.int mv]);have pV:=gA (K:=K) t9;generalize upd H8 T1 _=H9 at t9 pV;refine ⟨Z1,fun T2 n2=>?_⟩;have gO:=Jb n2 (.tup [.ref T1]);have ou:=gA (K:=K) gO;have qw:=t9.trans gO;have oy:=gO.aH pV;generalize upd H9 T2 _=mP at gO ou qw oy;have MR:LA K mP ev e:=LA.sb (LA.sb Cp s48) qw;have Vn:LA K mP (.ref T2) (.cons e mv .nil):=uD (bs:=[(e,mv)]) ou (.cons (Dp.tup oy (.cons MR (.cons (.int _) .nil))) .nil);have Wq:LA K mP fv F:=LA.sb (LA.sb hF QW) qw;have od:(Lad.cons e mv .nil).deep=max (1+e.deep) 0:=rfl;have op:(Lad.cons e mv .nil).parts=1+e.parts+0:=rfl;refine ⟨fv,.ref T2,F,.cons e mv .nil,Ja,Wq,Vn,by omega,by omega,by omega,by omega,fun x vP uX hx=>?_⟩;refine b7 ?_;obtain ⟨z1,z2⟩:=Lad.sV (l:=F) (k:=.cons e mv .nil);have so:(Lad.cons e mv .nil).Ok ((1+(wn:Int))*(10 ^ 30+1)):=by
  have h1:(1+(wn:Int))*(10 ^ 30+1)=(10 ^ 30+1)+(wn:Int)*(10 ^ 30+1):=by rw [Int.add_mul,Int.one_mul]
  rw [h1];exact ⟨enm.mono (by omega),Rj,by omega,trivial,by simp [Lad.ps]⟩
 have nmx:=Lad.zj Fn so (by omega) (by rw [Int.add_mul,Int.one_mul]; omega);have e12:((m:Int)-r)*(10 ^ 30+1)+1+(1+(wn:Int))*(10 ^ 30+1)=((m:Int)-((r-1-wn:Nat):Int))*(10 ^ 30+1)+1:=by
  have h1:((m:Int)-((r-1-wn:Nat):Int))=((m:Int)-r)+(1+(wn:Int)):=by omega
  rw [h1,Int.add_mul ((m:Int)-r)]; omega
 rw [e12] at nmx;have er:((r:Int)-1-(wn:Int))=((r-1-wn:Nat):Int):=by omega
 refine ⟨_,Ja,_,_,Ja,Ja,_,Ja,_,_,Ja,Ja,?_⟩;exact ⟨r-1-wn,by omega,r-1-wn,x,_,_,_,_,Ja,by omega,(s2.trans QW).trans ((qw.trans uX).nil),(pQ.sb qw).sb uX,(by show [some (V.ref p),some (V.int ((r:Int)-1-(wn:Int))),some x,some (V.int (wn:Int)),some ev,some (V.int mv)]=_; rw [er]),hx,by omega,by omega,nmx⟩
end
structure BelowL (l:Lad) (x:Lad × Int) (u:Nat) (e:Lad) (F:List (Lad × Int)):Prop where
 split:∃ G,F=l.ps.take u++G/\∀ g0,G.head?=some g0->g0.1.lt x.1=true\/(g0.1=x.1/\g0.2 < x.2)
 pw:F.Pairwise (fun p q=>q.1.lt p.1=true)
 low:∀ y ∈ F,e=y.1\/e.lt y.1=true
 el:e=x.1\/e.lt x.1=true
theorem YY:∀ (qs A C:List (Lad × Int)),(Lad.ofPs (qs++A)).lt (Lad.ofPs (qs++C))=(Lad.ofPs A).lt (Lad.ofPs C)
 | [],_,_=>rfl
 | q::r,A,C=>by
  show Lad.lt (.cons q.1 q.2 (Lad.ofPs (r++A))) (.cons q.1 q.2 (Lad.ofPs (r++C)))=_;rw [Lad.dA,if_pos rfl,if_pos rfl];exact YY r A C
namespace BelowL
variable {l:Lad} {x:Lad × Int} {u:Nat} {e e3:Lad} {F:List (Lad × Int)} {mv:Int}
theorem lt (h:BelowL l x u e F) (ex:l.ps[u]?=some x):(Lad.ofPs F).lt l=true:=by
 obtain ⟨⟨G,rfl,hg⟩,_,_,_⟩:=h;have el:l.ps=l.ps.take u++x::l.ps.drop (u+1):=by
  obtain ⟨hj,ej⟩:=Kq ex;rw [<- ej,<- List.drop_eq_getElem_cons hj,List.take_append_drop]
 have h2:l=Lad.ofPs (l.ps.take u++x::l.ps.drop (u+1)):=by rw [<- el,Lad.aE]
 have h3:=YY (l.ps.take u) G (x::l.ps.drop (u+1));rw [<- h2] at h3;rw [h3];cases G with
 | nil=>exact Lad.lt_nil_cons _ _ _
 | cons g r =>
  show Lad.lt (.cons g.1 g.2 _) (.cons x.1 x.2 _)=true;rw [Lad.dA];rcases hg g rfl with h | ⟨h1,h2⟩
  ·rw [if_neg (Lad.dk h)]; exact h
  ·rw [if_pos h1,if_neg (by omega)]; exact Ya h2
theorem step (h:BelowL l x u e F) (h3:e3.lt e=true):BelowL l x u e3 (F++[(e3,mv)]):=by
 obtain ⟨⟨G,hF,hg⟩,pw,low,el⟩:=h;have lx:e3.lt x.1=true:=by
  rcases el with rfl | z
  ·exact h3
  ·exact Lad.lt_trans _ _ _ h3 z
 have ly:∀ y ∈ F,e3.lt y.1=true:=fun y hy=>by
  rcases low y hy with z | z
  ·rw [<- z]; exact h3
  ·exact Lad.lt_trans _ _ _ h3 z
 refine ⟨⟨G++[(e3,mv)],by rw [hF,List.append_assoc],fun g0 h0=>?_⟩,List.pairwise_append.mpr ⟨pw,List.pairwise_singleton ..,fun a ha b hb=>by rw [Qy hb]; exact ly a ha⟩,fun y hy=>?_,.inr lx⟩
 ·cases G with
  | nil=>cases h0; exact .inl lx
  | cons g r=>exact hg g0 h0
 ·rcases Qw hy with hy | hy
  ·exact .inr (ly y hy)
  ·rw [Qy hy]; exact .inl rfl
theorem start (Fu:l.Ok B) (ex:l.ps[u]?=some x):BelowL l x u x.1 (l.ps.take u)/\∀ lv,lv < x.2->BelowL l x u x.1 (l.ps.take u++[(x.1,lv)]):=by
 have el:l.ps=l.ps.take u++x::l.ps.drop (u+1):=by
  obtain ⟨hj,ej⟩:=Kq ex;rw [<- ej,<- List.drop_eq_getElem_cons hj,List.take_append_drop]
 have pw:=(Lad.aV.mp Fu).2;rw [el] at pw;obtain ⟨p1,_,p3⟩:=List.pairwise_append.mp pw;have hx:∀ y ∈ l.ps.take u,x.1.lt y.1=true:=fun y hy=>p3 y hy x (bw ..);refine ⟨⟨⟨[],by simp,fun g0 h=>by simp at h⟩,p1,fun y hy=>.inr (hx y hy),.inl rfl⟩,fun lv hlv=>⟨⟨[(x.1,lv)],Ja,fun g0 h=>?_⟩,List.pairwise_append.mpr ⟨p1,List.pairwise_singleton ..,fun a ha b hb=>by rw [Qy hb]; exact hx a ha⟩,fun y hy=>?_,.inl rfl⟩⟩
 ·cases h; exact .inr ⟨rfl,hlv⟩
 ·rcases Qw hy with hy | hy
  ·exact .inr (hx y hy)
  ·rw [Qy hy]; exact .inl rfl
end BelowL
section
variable {P:Program} {w:World} {K:Qn} {mg:Str->Option Value} {base:Heap} {f:Addr} {fd:FuncData}
abbrev zkq:List Str:=[aa,ai,gy,"_law_at","_law_exponent",aQ,"_law_left","_law_found","_law_turn"]
theorem fV:FnScope zkq [aa,ai,gy] (defScope J5):=fS
theorem z4s {ps:List Str}:FnOk P w K mg base CX0 k f fd ps (IB K 0):=vW fun vs H Q E ⟨_,_,_,_,_,_,_,_,_,_,h,_⟩=>by omega
theorem zfz (B:BI mg) (br:Got P w K mg base bK [aa,aQ] (1) (AU)) (wO:Got P w K mg base bT [aa,ai,gy] (n+2) (IB K n)) (F:Fun K bT bT J5 f fd):FnOk P w K mg base CX0 (n+3) f fd [aa,ai,gy] (IB K (n+1)):=by
 refine F.ok fV (fun vs H Q E h=>?_) (fun _ A _ s H vs Q E hr h=>?_)
 ·obtain ⟨p,cl,v,l,t,BB,rfl,_⟩:=h
  rfl
 obtain ⟨p,cl,v,l,t,BB,rfl,hp,hv,ne,hdn,hd,⟨Fu,Jp,Bj⟩,t3,hw,q⟩:=h;have bF:=bC hr;refine ⟨_,Qc (ps_set (i:=3) fV.nd rfl (.inl rfl) (aS br (Hm hr) rfl (Qa (pv 0) (Qa (Qs call_len_seq rfl B.len PySem.boot_len (Qa (pv 1) Qb)) Qb))))
  (Qc (ps_asg (Qm Ql (pv 1) (pv 3) (fun _ _=>rfl)) (pg_tup rfl (Qi (pg_name (i:=4) fV.nd rfl (.inl rfl)) (Qi (pg_name (i:=5) fV.nd rfl (.inl rfl)) pgs_nil))))
  (Qc (ps_set (i:=6) fV.nd rfl (.inl rfl) (Qm ix_list (pe_lst (Qa Qg (Qa (pe_op op_sub (pv 5) Qg) (Qa (aS br (Hm hr) rfl (Qa (pv 0) (Qa (pv 5) Qb))) Qb)))) (aS br (Hm hr) rfl (Qa (pv 0) (Qa Qg Qb))) (fun _ _=>rfl)))
  (Qc (ps_set (i:=7) fV.nd rfl (.inl rfl) (pe_slice yq (pv 1) po_none (po_some (pv 3))))
  (Qc (Qr (pt_cmpR op_gt (pv 6) Qg (nomark _)) (Qe (ps_set (i:=7) fV.nd rfl (.inl rfl) (pe_op yc (pv 7) (Ka (Qa (Ka (Qa (pv 4) (Qa (pv 6) Qb))) Qb))))) pss_nil)
  (Qc (ps_for PassesOwn.never rfl (pi_range1 rfl B.range (Qa (aS br (Hm hr) rfl (Qa (pv 0) (Qa (pe_op Ko (pv 2) Qg) Qb))) Qb)) (pg_name (i:=8) fV.nd rfl (.inl rfl))
   (Qe (Qr (pt_cmpR (op_neD (mb hr)) (pv 4) (Ka Qb) (nomark _)) (Qc (ps_set (i:=4) fV.nd rfl (.inl rfl) (aS wO (Hm hr) rfl (Qa (pv 0) (Qa (pv 4) (Qa Qg Qb)))))
  (Qe (ps_set (i:=7) fV.nd rfl (.inl rfl) (pe_op yc (pv 7) (Ka (Qa (Ka (Qa (pv 4) (Qa (Qm ix_list (pe_lst (Qa Qg (Qa (pe_op Ko Qg (aS br (Hm hr) rfl (Qa (pv 0) (Qa (pe_op op_pow Qg Qg) Qb)))) Qb))) (aS br (Hm hr) rfl (Qa (pv 0) (Qa Qg Qb))) (fun _ _=>rfl)) Qb))) Qb)))))) pss_nil)))
  (Qe (Qj (pv 7)))))))),?_⟩
 obtain ⟨a,xs,rfl,hs,hb⟩:=je hv;have xl:=hb.length;have ydf:0 < l.ps.length:=by
  cases l with
  | nil=>exact absurd rfl ne
  | cons e m r=>exact Nat.succ_pos _
 have lw:=l.Bp;refine ⟨_,Ja,_,Ja,a,xs,Ja,.inr hs,p,cl,_,Ja,hp,by omega,by omega,fun r H3 r0 rm s3 oo=>?_⟩;obtain ⟨u,rfl⟩:∃ x:Nat,r=(x:Int):=⟨r.toNat,by omega⟩;refine b7 ?_;have eu:xs[u]?=some xs[u]:=Kp (by omega);obtain ⟨x,ex,hx⟩:=hb.get eu;have xm:=Qu ex;have xd:=l.av x xm;have xw:=l.qr x xm;obtain ⟨xn,x1,x2⟩:=(Lad.aV.mp Fu).1 x xm;have below:=BelowL.start Fu ex;obtain ⟨ad,ev,ead,rS,Cp⟩:=jW hx;rw [ead] at eu;refine ⟨_,Ja,_,Ja,a,_,_,_,Ja,Ja,s3.aH hs,atI_nat eu,ad,_,Ja,s3.aH rS,Ja,_,_,Ja,_,_,Ja,Ja,?_⟩;refine ⟨_,Ja,_,_,Ja,Ja,?_⟩;refine ⟨_,Ja,_,Ja,p,cl,x.2,Ja,oo,x1,Int.lt_of_lt_of_le x2 Bj,fun r4 H4 Ra Q0 s4 kN=>?_⟩;refine ⟨Z3,fun L nL=>?_⟩;have t5:=Jb nL (.lst [.int 0,.int (x.2-1),.int r4]);have lZ:=dZ t5;have jh:=kN.sb t5;have Lp:L ≠ p:=fun z=>kN.ne nL z.symm;generalize upd H4 L _=H5 at t5 lZ jh;refine ⟨_,Ja,p,cl,3,Ja,jh,by decide,by decide,fun r6 H6 r60 r63 s6 oN=>?_⟩;obtain ⟨lv,elv,lv0,lv1⟩:∃ lv:Int,atI [V.int 0,V.int (x.2-1),V.int r4] r6=some (.int lv)/\0<=lv/\lv < x.2:=by
  rcases (by omega:r6=0\/r6=1\/r6=2) with rfl | rfl | rfl
  ·exact ⟨0,Ja,by omega,by omega⟩
  ·exact ⟨x.2-1,Ja,by omega,by omega⟩
  ·exact ⟨r4,Ja,Ra,Q0⟩
 refine ⟨L,_,_,_,Ja,Ja,SqL.of (s6.keep _ _ lZ (by simpa using Lp)),elv,?_⟩;refine b7 ?_;have me:SB [p] H H6:=((s3.trans s4).trans t5.nil).trans s6;have s36:SB [p] H3 H6:=(s4.trans t5.nil).trans s6;refine ⟨_,Ja,_,Ja,_,Ja,a,xs,Ja,me.aH hs,fun c H7 s7 hc=>?_⟩;rw [P5] at hc;have Dk:=me.trans (s7.nil (ps:=[p]));have oM:=oN.sb s7;have MQ:LA K H7 ev x.1:=LA.sb (LA.sb (LA.sb Cp s3) s36) s7;have Cz:Bears K H7 Lad.aC (xs.take u) (l.ps.take u):=(hb.sb Dk Lad.ae).take u;have hF7:LA K H7 (.ref c) (Lad.ofPs (l.ps.take u)):=uD hc Cz;refine b7 ?_;have good:∀ y ∈ l.ps.take u,y.1.deep < l.deep/\y.1.iu<=l.iu/\y.1.Ok BB/\1<=y.2/\y.2 < BB:=fun y hy=>by
  have ym:=List.mem_of_mem_take hy;obtain ⟨a1,a2,a3⟩:=(Lad.aV.mp Fu).1 y ym;exact ⟨l.av y ym,l.qr y ym,a1,a2,a3⟩
 have cat:∀ (fv ev:V) (F:List (Lad × Int)) (e:Lad) (z:Int) (G:Hp),LA K G fv (Lad.ofPs F)->LA K G ev e->F.length<=2000000->∀ (T1 T2:Addr) (G1 G2:Hp),SB [] G G1->SqT K G1 T1 [ev,.int z]->SqT K G1 T2 [.ref T1]->∃ A zs,fv=.ref A/\SqT K G1 A zs/\zs.length=F.length/\∀ (C:Addr) (G3:Hp),SB [] G1 G3->SqT K G3 C (zs++[.ref T1])->LA K G3 (.ref C) (Lad.ofPs (F++[(e,z)])):=by
  intro fv ev F e z G hF he hFl T1 T2 G1 _ s h1 h2;obtain ⟨A,zs,rfl,hA,V4⟩:=je hF;rw [Lad.aK] at V4;refine ⟨A,zs,Ja,s.aH hA,V4.length,fun C G3 s3 hC=>uD hC ?_⟩;exact ((V4.sb s Lad.ae).sb s3 Lad.ae).append (.cons (Dp.tup (s3.aH h1) (.cons (LA.sb (LA.sb he s) s3) (.cons (.int _) .nil))) .nil)
 refine AS (fun σ' G=>∃ (fv:V) (F:List (Lad × Int)),σ'=[some (.ref p),some (.ref a),some (.int (t:Int)),some (.int (u:Int)),some ev,some (.int x.2),some (.int lv),some fv,none]/\SB [] H7 G/\LA K G fv (Lad.ofPs F)/\BelowL l x u x.1 F/\F.length<=l.ps.length/\∀ y ∈ F,y.1.deep < l.deep/\y.1.iu<=l.iu/\y.1.Ok BB/\1<=y.2/\y.2 < BB) (fun nx ji=>?_) (fun σ' G h=>?_)
 ·refine ⟨_,Ja,_,_,Ja,Ja,_,Ja,?_⟩;by_cases h0:0 < lv
  ·rw [Ya h0];refine iteT ?_;refine ⟨_,Ja,_,Ja,_,Ja,dU,fun T1 n1=>?_⟩;have t9:=Jb n1 (.tup [ev,.int lv]);have pV:=gA (K:=K) t9;generalize upd H7 T1 _=H9 at t9 pV;refine ⟨Z1,fun T2 n2=>?_⟩;have gO:=Jb n2 (.tup [.ref T1]);have ou:=gA (K:=K) gO;have qw:=t9.trans gO;have oy:=gO.aH pV;generalize upd H9 T2 _=mP at gO ou qw oy;obtain ⟨A,zs,eA,hA,zl,fin⟩:=cat _ _ _ _ _ _ hF7 MQ (by rw [Kx]; omega) T1 T2 mP mP qw oy ou;cases eA;refine ⟨c,T2,zs,_,Ja,Ja,hA,ou,by rw [zl,Kx,Yi]; omega,fun C G3 xq hC=>?_⟩;refine ji _ _ ⟨.ref C,l.ps.take u++[(x.1,lv)],Ja,qw.trans xq,fin C G3 xq hC,below.2 lv (by omega),by rw [Yf,Kx,Yi]; omega,fun y hy=>?_⟩;rcases Qw hy with hy | hy
   ·exact good y hy
   ·rw [Qy hy]; exact ⟨xd,xw,xn,by show 1<=lv; omega,by show lv < _; omega⟩
  ·rw [Qz h0];exact iteF (ji _ _ ⟨.ref c,l.ps.take u,Ja,SB.refl,hF7,below.1,by rw [Kx]; omega,good⟩)
 obtain ⟨fv,F,rfl,s8,hF8,Fb,Fl,Fg⟩:=h;have pQ:=oM.sb s8;have zM:=LA.sb MQ s8;refine ⟨_,Ja,_,Ja,_,_,Ja,Ja,p,cl,_,Ja,pQ,by omega,by omega,fun tr H9 tr0 trm s9 vy=>?_⟩;obtain ⟨tn,rfl⟩:∃ z:Nat,tr=(z:Int):=⟨tr.toNat,by omega⟩;refine ⟨(tn:Int),Ja,by omega,by omega,?_⟩;rw [Int.toNat_natCast];refine for_it (walk_range (lo:=0) (n:=tn)) (fun i σ G2=>SB [p] H9 G2/\bR G2 p cl/\∃ (Jv Jt:V) (e2:Lad) (F2:List (Lad × Int)) (o8:Option V),σ=[some (.ref p),some (.ref a),some (.int (t:Int)),some (.int (u:Int)),some Jv,some (.int x.2),some (.int lv),some Jt,o8]/\LA K G2 Jv e2/\LA K G2 Jt (Lad.ofPs F2)/\BelowL l x u e2 F2/\e2.deep < l.deep/\e2.iu<=l.iu+i/\e2.Ok BB/\F2.length<=l.ps.length+i/\∀ y ∈ F2,y.1.deep < l.deep/\y.1.iu<=l.iu+i/\y.1.Ok BB/\1<=y.2/\y.2 < BB)
  ⟨SB.refl,vy,ev,fv,x.1,F,none,rfl,LA.sb zM s9,LA.sb hF8 s9,Fb,xd,by omega,xn,by omega,fun y hy=>by obtain ⟨a,b,c⟩:=Fg y hy; exact ⟨a,by omega,c⟩⟩ (fun _ _ _ _ _=>trivial) (fun i z σ G3 G2 hi h y=>?_) (fun σ G2 h=>?_)
 ·obtain ⟨mF,jG,Jv,Jt,e2,F2,o8,rfl,pS,NA,PD,e2d,e2w,Xe,F2l,PB⟩:=h;obtain ⟨rfl,rfl⟩:=y;have Pz:∀ y ∈ F2,y.1.deep < l.deep/\y.1.iu<=l.iu+(i+1)/\y.1.Ok BB/\1<=y.2/\y.2 < BB:=fun y hy=>by obtain ⟨a,b,c⟩:=PB y hy; exact ⟨a,by omega,c⟩
  refine ⟨_,Ja,Z0,fun e0 BP=>?_⟩;have kM:=Jb BP (.tup []);have Bf:=gA (K:=K) kM;have Cr:=LA.sb pS kM;have GK:=LA.sb NA kM;have rA:=jG.sb kM;have uX:=mF.trans (kM.nil (ps:=[p]));generalize upd G2 e0 _=vP at kM Bf Cr GK rA uX;refine ⟨e2.enc,Lad.enc .nil,Cr,uf Bf,Lad.aA (by omega),Lad.aA (by decide),_,Ja,?_⟩;rw [Lad.a5];by_cases hn:e2=.nil
  ·rw [Ya hn];exact iteF ⟨uX,rA,Jv,Jt,e2,F2,_,Ja,Cr,GK,PD,e2d,by omega,Xe,by omega,Pz⟩
  ·rw [Qz hn];refine iteT ?_;refine ⟨_,Ja,_,Ja,p,cl,Jv,e2,1,BB,Ja,rA,Cr,hn,by omega,by omega,⟨Xe,Jp,Bj⟩,by omega,by omega,fun ev3 e3 Ey jD Cf DL e3d e3w e3n Xd=>?_⟩;refine b7 ?_;refine ⟨_,Ja,_,Ja,?_⟩;refine ⟨_,Ja,10,9,Ja,Ja,⟨by decide,by decide⟩,p,cl,_,Ja,Cf,by decide,by decide,fun Ut OW yce Us uW Ce=>⟨_,_,Ja,Ja,?_⟩⟩;refine ⟨dU,fun L2 IT=>?_⟩;have kX:=Jb IT (.lst [.int 1,.int (1+Ut)]);have Nz:=dZ kX;have zI:=Ce.sb kX;have Lp2:L2 ≠ p:=fun z=>Ce.ne IT z.symm;generalize upd OW L2 _=H14 at kX Nz zI;refine ⟨_,Ja,p,cl,2,Ja,zI,by decide,by decide,fun Rb OV ycd ycc E8 zH=>?_⟩;have e9:(10:Int) ^ (9:Int).toNat=10 ^ 9:=rfl;rw [e9] at Us;obtain ⟨mv,OG,Rj,mv2⟩:∃ mv:Int,atI [V.int 1,V.int (1+Ut)] Rb=some (.int mv)/\1<=mv/\mv < BB:=by
    rcases (by omega:Rb=0\/Rb=1) with rfl | rfl
    ·exact ⟨1,Ja,by omega,by omega⟩
    ·exact ⟨1+Ut,Ja,by omega,by omega⟩
   refine ⟨L2,_,_,_,Ja,Ja,SqL.of (E8.keep _ _ Nz (by simpa using Lp2)),OG,?_⟩;have yU:SB [p] Ey OV:=(uW.trans kX.nil).trans E8;have yY:SB [p] vP OV:=jD.trans yU;have MU:=LA.sb DL yU;have Wo:=LA.sb GK yY;refine ⟨dU,fun T1 n1=>?_⟩;have yH:=Jb n1 (.tup [ev3,.int mv]);have pV:=gA (K:=K) yH;generalize upd OV T1 _=XJ at yH pV;refine ⟨Z1,fun T2 n2=>?_⟩;have qx:=Jb n2 (.tup [.ref T1]);have ou:=gA (K:=K) qx;have yG:=yH.trans qx;have oy:=qx.aH pV;generalize upd XJ T2 _=HE at qx ou yG oy;obtain ⟨A,zs,eA,hA,zl,fin⟩:=cat _ _ _ _ mv _ Wo MU (by omega) T1 T2 HE HE yG oy ou;subst eA;refine ⟨A,T2,zs,_,Ja,Ja,hA,ou,by rw [zl,Yi]; omega,fun C G18 xx hC=>?_⟩;have EZ:SB [] OV G18:=yG.trans xx;refine ⟨uX.trans (yY.trans (EZ.nil (ps:=[p]))),zH.sb EZ,ev3,.ref C,e3,F2++[(e3,mv)],_,Ja,LA.sb MU EZ,fin C G18 xx hC,PD.step Xd,by omega,by omega,e3n,by rw [Yf,Yi]; omega,fun y hy=>?_⟩;rcases Qw hy with hy | hy
   ·exact Pz y hy
   ·rw [Qy hy]; exact ⟨by show e3.deep < _; omega,by show e3.iu<=_; omega,e3n,Rj,mv2⟩
 ·obtain ⟨mF,jG,Jv,Jt,e2,F2,o8,rfl,pS,NA,PD,e2d,e2w,Xe,F2l,PB⟩:=h;refine ⟨_,Ja,q Jt (Lad.ofPs F2) G2 (((Dk.trans (s8.nil (ps:=[p]))).trans s9).trans mF) jG NA (Lad.i9 fun y hy=>(PB y hy).1) (Lad.yx (by omega) fun y hy=>by have:=(PB y hy).2.1; omega) (Lad.eF.mpr ⟨fun y hy=>(PB y hy).2.2,PD.pw⟩) (PD.lt ex)⟩
abbrev ziv:List Str:=[ai,"_law_found","_law_exponent",aQ,"_law_within"]
theorem lB:FnScope ziv [ai] (defScope Kj):=fS
theorem z50 {ps:List Str}:FnOk P w K mg base CX0 k f fd ps (EN K 0):=vW fun vs H Q E ⟨v,l,_,_,h,_⟩=>by omega
theorem zhs (B:BI mg) (tZ:Got P w K mg base bS [ai] (n) (EN K n)) (F:Fun K bS bS Kj f fd):FnOk P w K mg base CX0 (n+1) f fd [ai] (EN K (n+1)):=by
 refine F.ok lB (fun vs H Q E h=>?_) (fun _ A _ _ H vs Q E hr h=>?_)
 ·obtain ⟨v,l,rfl,_⟩:=h
  rfl
 obtain ⟨v,l,rfl,hv,hd,hd2,q⟩:=h;have bF:=bC hr;refine ⟨_,Qc (ps_set (i:=1) lB.nd rfl (.inl rfl) (pe_lst (Qa Qg (Qa Qg (Qa Qg Qb)))))
  (Qc (ps_for PassesOwn.never rfl (pi_tup (pv 0)) (pg_tup rfl (Qi (pg_name (i:=2) lB.nd rfl (.inl rfl)) (Qi (pg_name (i:=3) lB.nd rfl (.inl rfl)) pgs_nil)))
   (Qc (ps_set (i:=4) lB.nd rfl (.inl rfl) (aS tZ (Hm hr) rfl (Qa (pv 2) Qb)))
  (Qe (ps_set (i:=1) lB.nd rfl (.inl rfl) (pe_lst (Qa (pe_op Ko (pe_op Ko (Qm ix_list (pv 1) Qg (fun _ _=>rfl)) Qg) (Qm ix_list (pv 4) Qg (fun _ _=>rfl))) (Qa (Qs (call_max2 rfl) rfl B.max boot_max (Qa (Qm ix_list (pv 1) Qg (fun _ _=>rfl)) (Qa (pe_op Ko Qg (Qm ix_list (pv 4) Qg (fun _ _=>rfl))) Qb))) (Qa (Qs (zc1 rfl) rfl B.max boot_max (Qa (Qm ix_list (pv 1) Qg (fun _ _=>rfl)) (Qa (pv 3) (Qa (Qm ix_list (pv 4) Qg (fun _ _=>rfl)) Qb)))) Qb))))))))
  (Qe (Qj (pv 1)))),?_⟩
 obtain ⟨a,xs,rfl,hs,hb⟩:=je hv;have bl:=hb.length;refine ⟨Z3,fun D hD=>?_⟩;have t1:=Jb hD (.lst [.int 0,.int 0,.int 0]);refine b7 ?_;refine ⟨_,Ja,a,Ja,⟨xs,t1.aH hs⟩,?_⟩;refine for_it (walk_tup (xs:=xs)) (fun i σ H2=>SB [] H H2/\∃ (E:Addr) (m:Int) (o2 o3 o4:Option V),σ=[some (.ref a),some (.ref E),o2,o3,o4]/\H E=none/\H2 E=some (.lst [.int ((Lad.ofPs (l.ps.take i)).parts:Nat),.int ((Lad.ofPs (l.ps.take i)).deep:Nat),.int m])) ⟨t1,D,0,none,none,none,Ja,hD,Qt⟩ (fun i σ H2 hi h2=>h2.1.aH hs) (fun i x σ H2 H' hi h2 y=>?_) (fun σ H2 h2=>?_)
 ·obtain ⟨s2,E,m,o2,o3,o4,rfl,nE,RS⟩:=h2;obtain ⟨rfl,ey⟩:=y;obtain ⟨p,ep,gz⟩:=hb.get ey;have pm:=Qu ep;have pd:=l.av p pm;obtain ⟨ad,ux,rfl,dS,vB⟩:=jW gz;refine ⟨ad,_,Ja,s2.aH dS,Ja,_,_,Ja,_,_,Ja,Ja,?_⟩;refine ⟨_,Ja,ux,p.1,Ja,vB.sb s2,by omega,by omega,fun d m' H3 s3 nd Ji=>?_⟩;refine b7 ?_;have DZ:=s3.keep _ _ RS aL;refine ⟨_,Ja,E,_,_,_,Ja,Ja,SqL.of DZ,atI_nat (j:=0) rfl,_,_,Ja,Ja,_,Ja,d,_,_,_,Ja,Ja,SqL.of Ji,atI_nat (j:=0) rfl,_,_,Ja,Ja,?_⟩;refine ⟨_,Ja,E,_,_,_,Ja,Ja,SqL.of DZ,atI_nat (j:=1) rfl,_,Ja,d,_,_,_,Ja,Ja,SqL.of Ji,atI_nat (j:=1) rfl,_,_,Ja,Ja,_,_,Ja,?_⟩;refine ⟨_,Ja,E,_,_,_,Ja,Ja,SqL.of DZ,atI_nat (j:=2) rfl,_,Ja,_,Ja,d,_,_,_,Ja,Ja,SqL.of Ji,atI_nat (j:=2) rfl,_,_,_,Ja,fun M=>?_⟩;refine ⟨Z3,fun F nF=>?_⟩;have t4:=Jb nF (.lst [.int (((Lad.ofPs (l.ps.take i)).parts:Nat)+1+(p.1.parts:Nat)),.int (if 1+((p.1.deep:Nat):Int) > ((Lad.ofPs (l.ps.take i)).deep:Nat) then 1+((p.1.deep:Nat):Int) else ((Lad.ofPs (l.ps.take i)).deep:Nat)),.int M]);refine ⟨(s2.trans s3).trans t4,F,M,_,_,_,Ja,(s2.trans s3).kS _ nF,?_⟩;have e1:l.ps.take (i+1)=l.ps.take i++[p]:=by rw [Yg,ep]; rfl
  have e2:((((Lad.ofPs (l.ps.take i)).parts:Nat):Int)+1+(p.1.parts:Nat))=((Lad.ofPs (l.ps.take i++[p])).parts:Nat):=by rw [Lad.nG]; omega
  have e3:(if 1+((p.1.deep:Nat):Int) > ((Lad.ofPs (l.ps.take i)).deep:Nat) then 1+((p.1.deep:Nat):Int) else ((Lad.ofPs (l.ps.take i)).deep:Nat))=((Lad.ofPs (l.ps.take i++[p])).deep:Nat):=by rw [Lad.p4]; split <;> omega
  rw [e1,<- e2,<- e3];exact Qt
 ·obtain ⟨s2,E,m,o2,o3,o4,rfl,nE,RS⟩:=h2;rw [bl,Yh,Lad.aE] at RS;exact ⟨_,Ja,q E m H2 s2 nE RS⟩
abbrev zlb:List Str:=[aa,ai,"_law_way","_law_found","_law_here"]
theorem lE:FnScope zlb [aa,ai] (defScope JH):=fS
theorem zhk (B:BI mg) (br:Got P w K mg base bK [aa,aQ] (1) (AU)) (wO:Got P w K mg base bT [aa,ai,gy] (33) (IB K 31)) (tZ:Got P w K mg base bS [ai] (40) (EN K 40)) (F:Fun K aY aY JH f fd):FnOk P w K mg base CX0 (42) f fd [aa,ai] (Zr K):=by
 refine F.ok lE (fun vs H Q E h=>?_) (fun _ A _ _ H vs Q E hr h=>?_)
 ·obtain ⟨p,cl,v,l,BB,rfl,_⟩:=h
  rfl
 obtain ⟨p,cl,v,l,BB,rfl,hp,hv,ne,hd,lw,⟨Fu,Jp,Bj⟩,q⟩:=h;have bF:=bC hr;refine ⟨_,Qc (ps_set (i:=2) lE.nd rfl (.inl rfl) (aS br (Hm hr) rfl (Qa (pv 0) (Qa Qg Qb))))
  (Qc (ps_set (i:=3) lE.nd rfl (.inl rfl) (Ka Qb))
  (Qc (Qr (pt_cmpR op_gt (pv 2) Qg (nomark _)) (Qe (ps_set (i:=3) lE.nd rfl (.inl rfl) (aS wO (Hm hr) rfl (Qa (pv 0) (Qa (pv 1) (Qa Qg Qb)))))) pss_nil)
  (Qc (Qr (PW.pt (Kl (pt_cmpR op_eq (pv 2) Qg (nomark _)) (pw_and1 (pt_cmpR (op_neD (mb hr)) (pv 3) (Ka Qb) (nomark _))))) (Qe (ps_set (i:=3) lE.nd rfl (.inl rfl) (aS wO (Hm hr) rfl (Qa (pv 0) (Qa (pv 3) (Qa Qg Qb)))))) pss_nil)
  (Qc (ps_set (i:=4) lE.nd rfl (.inl rfl) (aS tZ (Hm hr) rfl (Qa (pv 3) Qb)))
  (Qc (Qr (PW.pt (Kk (pt_cmpR op_gt (Qm ix_list (pv 4) Qg (fun _ _=>rfl)) Qg (nomark _)) (Kk (pt_cmpR op_gt (Qm ix_list (pv 4) Qg (fun _ _=>rfl)) Qg (nomark _)) (pw_or1 (pt_cmpR op_ge (Qm ix_list (pv 4) Qg (fun _ _=>rfl)) (pe_op op_pow Qg Qg) (nomark _)))))) (Qe (Qj (Ka Qb))) pss_nil)
  (Qe (Qj (pv 3)))))))),?_⟩
 have LX:Lad.lt .nil l=true:=by
  cases l with
  | nil=>exact absurd rfl ne
  | cons e m r=>exact Lad.lt_nil_cons _ _ _
 refine ⟨_,Ja,p,cl,5,Ja,hp,by decide,by decide,fun r1 H1 Dm Rb s1 g9=>?_⟩;refine b7 ?_;refine ⟨Z0,fun e0 BP=>?_⟩;have t2:=Jb BP (.tup []);have pS:=gA (K:=K) t2;have eY:=g9.sb t2;have mG:=s1.trans (t2.nil (ps:=[p]));generalize upd H1 e0 _=H2 at t2 pS eY mG;refine b7 ?_;refine AS (fun σ' G=>∃ (fv:V) (F:Lad),σ'=[some (.ref p),some v,some (.int r1),some fv,none]/\SB [p] H G/\bR G p cl/\LA K G fv F/\F.deep<=29/\F.iu<=900003/\F.Ok BB/\F.lt l=true) (fun nx ji=>?_) (fun σ' G h=>?_)
 ·refine ⟨_,Ja,_,_,Ja,Ja,_,Ja,?_⟩;cases decide ((0:Int) < r1) with
  | true=>exact iteT ⟨_,Ja,_,Ja,p,cl,v,l,3,BB,Ja,eY,LA.sb hv mG,ne,by omega,by omega,⟨Fu,Jp,Bj⟩,by omega,by omega,fun x k H3 s3 oo hk kd kw kn kl=>ji _ _ ⟨x,k,Ja,mG.trans s3,oo,hk,by omega,by omega,kn,kl⟩⟩
  | false=>exact iteF (ji _ _ ⟨.ref e0,.nil,Ja,mG,eY,uf pS,by decide,by decide,trivial,LX⟩)
 obtain ⟨fv,F,rfl,s3,oo,hF,Fd,Fw,Fn,Fl⟩:=h;refine AS (fun σ' G2=>∃ (fv:V) (F:Lad),σ'=[some (.ref p),some v,some (.int r1),some fv,none]/\SB [p] H G2/\bR G2 p cl/\LA K G2 fv F/\F.deep<=29/\F.Ok BB/\F.lt l=true) (fun nx ji=>?_) (fun σ' G2 h=>?_)
 ·refine ⟨_,Ja,Ja,_,Ja,?_⟩;cases decide (V.int r1=V.int 1) with
  | false=>exact iteF (ji _ _ ⟨fv,F,Ja,s3,oo,hF,Fd,Fn,Fl⟩)
  | true =>
   refine iteT ⟨_,Ja,Z0,fun e1 ne1=>?_⟩;have t4:=Jb ne1 (.tup []);have he4:=gA (K:=K) t4;have RO:=LA.sb hF t4;have kN:=oo.sb t4;have mf:=s3.trans (t4.nil (ps:=[p]));generalize upd G e1 _=H4 at t4 he4 RO kN mf;refine ⟨F.enc,Lad.enc .nil,RO,uf he4,Lad.aA (by omega),Lad.aA (by decide),_,Ja,?_⟩;rw [Lad.a5];by_cases hn:F=.nil
   ·rw [Ya hn];exact iteF (ji _ _ ⟨fv,F,Ja,mf,kN,RO,Fd,Fn,Fl⟩)
   ·rw [Qz hn];exact iteT ⟨_,Ja,_,Ja,p,cl,fv,F,1,BB,Ja,kN,RO,hn,by omega,by omega,⟨Fn,Jp,Bj⟩,by omega,by omega,fun x k H5 s5 jh hk kd kw kn kl=>ji _ _ ⟨x,k,Ja,mf.trans s5,jh,hk,by omega,kn,Lad.lt_trans _ _ _ kl Fl⟩⟩
 obtain ⟨fv,F,rfl,s4,kN,hF,Fd,Fn,Fl⟩:=h;refine ⟨_,Ja,fv,F,Ja,hF,by omega,by omega,fun d m H5 s5 nd Jh=>?_⟩;refine b7 ?_;have fB:=s4.trans (s5.nil (ps:=[p]));have jh:=kN.sb s5;have none_:∀ (G:Hp),SB [] H5 G->∀ e,G e=none->Q (.ref e) (upd G e (.tup [])):=fun G sG e ne=>by
  have t:=Jb ne (.tup []);exact q (.ref e) .nil _ ((fB.trans (sG.nil (ps:=[p]))).trans (t.nil (ps:=[p]))) ((jh.sb sG).sb t) (uf (SqT.of Qt)) (by decide) (by decide) trivial LX
 refine ⟨_,Ja,d,_,_,_,Ja,Ja,SqL.of Jh,atI_nat (j:=0) rfl,_,_,Ja,Ja,_,Ja,?_⟩;by_cases h1:60 < F.parts
 ·rw [Ya (show (60:Int) < (F.parts:Nat) by omega)];exact iteT (iteT ⟨Z0,fun e ne=>none_ H5 SB.refl e ne⟩)
 rw [Qz (show ¬ (60:Int) < (F.parts:Nat) by omega)];refine iteF ⟨_,Ja,d,_,_,_,Ja,Ja,SqL.of Jh,atI_nat (j:=1) rfl,_,_,Ja,Ja,_,Ja,?_⟩;by_cases h2:12 < F.deep
 ·rw [Ya (show (12:Int) < (F.deep:Nat) by omega)];exact iteT (iteT ⟨Z0,fun e ne=>none_ H5 SB.refl e ne⟩)
 rw [Qz (show ¬ (12:Int) < (F.deep:Nat) by omega)];refine iteF ⟨_,Ja,d,_,_,_,Ja,Ja,SqL.of Jh,atI_nat (j:=2) rfl,10,60,Ja,Ja,⟨by decide,by decide⟩,_,_,Ja,Ja,_,Ja,?_⟩;cases decide ((10:Int) ^ (60:Int).toNat<=m) with
 | true=>exact iteT ⟨Z0,fun e ne=>none_ H5 SB.refl e ne⟩
 | false=>exact iteF ⟨_,Ja,q fv F H5 fB jh (LA.sb hF s5) (by omega) (by omega) Fn Fl⟩
abbrev zj5:List Str:=[aw,aB,uw,aY,dr,"_law_here","_law_kind","_law_at","_law_found"]
theorem iB:FnScope zj5 [aw,aB,uw,aY] (defScope JP):=fS
theorem zfq (B:BI mg) (kF:Got P w K mg base bY [aw,bc,aB] (220) (C3 K 177)) (AM:Got P w K mg base dg [aw,aB,fm,fb,dr] (21) (Iy K 20)) (hI:Got P w K mg base bD [aI,ax] (40) (yb K 40)) (F:Fun K dG dG JP f fd):FnOk P w K mg base CX0 (225) f fd [aw,aB,uw,aY] (ZG K):=by
 refine F.ok iB (fun vs H Q E h=>?_) (fun _ A _ _ H vs Q E hr h=>?_)
 ·obtain ⟨d,p,u,y,b,ρ,ns,lv,g,t,pl,i,r,m,C,rfl,_⟩:=h
  rfl
 obtain ⟨d,p,u,y,b,ρ,ns,lv,g,t,pl,i,r,m,C,rfl,hd,ok,R,⟨hg,go,C1,C2,gn,gd,gp⟩,⟨hy,td⟩,⟨a,hT,hA⟩,⟨m0,k,kd,hb,eg,er,FY⟩,mB,⟨⟨WS,Rl⟩,WR,lf2⟩,q⟩:=h;have bF:=bC hr;refine ⟨_,Qc (Qr (PW.pt (Kk (Qp (Qo (uC B (pv 2) B.tuple boot_tuple))) (Kk (pt_cmpR op_ne (Qs call_len_seq rfl B.len PySem.boot_len (Qa (pv 2) Qb)) Qg (nomark _)) (pw_or1 (Qp (Qo (uC B (Qm Ql (pv 2) Qg (fun _ _=>rfl)) B.tuple boot_tuple))))))) (Qe (Qj pe_bl)) pss_nil)
  (Qc (ps_for PassesOwn.never rfl (pi_tup (pe_op yc (Qm Ql (pv 2) Qg (fun _ _=>rfl)) (pe_slice yq (pv 2) (po_some Qg) po_none))) (pg_name (i:=4) iB.nd rfl (.inl rfl))
   (Qe (Qr (PW.pt (Kk (Qp (Qo (uC B (pv 4) B.int boot_int))) (Kk (Qo (uC B (pv 4) B.bool boot_bool)) (pw_or1 (pt_cmpR op_lt (pv 4) Qg (nomark _)))))) (Qe (Qj pe_bl)) pss_nil)))
  (Qc (ps_set (i:=5) iB.nd rfl (.inl rfl) (pv 1))
  (Qc (ps_set (i:=6) iB.nd rfl (.inl rfl) pe_str)
  (Qc (ps_for PassesOwn.never rfl (pi_tup (Qm Ql (pv 2) Qg (fun _ _=>rfl))) (pg_name (i:=7) iB.nd rfl (.inl rfl))
   (Qc (Qr (pt_cmpR op_ge (pv 7) (Qs call_len_seq rfl B.len PySem.boot_len (Qa (pv 5) Qb)) (nomark _)) (Qe (Qj pe_bl)) pss_nil)
  (Qe (ps_asg (Qm Ql (Qm Ql (pv 5) (pv 7) (fun _ _=>rfl)) Qg (fun _ _=>rfl)) (pg_tup rfl (Qi (pg_name (i:=6) iB.nd rfl (.inl rfl)) (Qi (pg_name (i:=5) iB.nd rfl (.inl rfl)) pgs_nil)))))))
  (Qc (Qr (PW.pt (Kk (pt_cmpR op_eq (pv 6) pe_str (nomark _)) (Kk (pt_cmpR (zfh (by show A.units+3+195 < cLine; omega)) (pv 5) (Ka Qb) (nomark _)) (pw_or1 (pt_cmpR op_gt (Qm Ql (pv 2) Qg (fun _ _=>rfl)) (Qs call_len_seq rfl B.len PySem.boot_len (Qa (Qm Ql (pe_dget (u1 hr) (pv 0) (pv 6) (fun _ _=>rfl)) Qg (fun _ _=>rfl)) Qb)) (nomark _)))))) (Qe (Qj pe_bl)) pss_nil)
  (Qc (ps_set (i:=8) iB.nd rfl (.inl rfl) (aS kF (Hm hr) rfl (Qa (pv 0) (Qa pe_dnewK (Qa (aS AM (Hm hr) rfl (Qa (pv 0) (Qa (pv 1) (Qa (Qm Ql (pv 2) Qg (fun _ _=>rfl)) (Qa (Qm Ql (pv 2) Qg (fun _ _=>rfl)) (Qa (Qm Ql (pv 2) Qg (fun _ _=>rfl)) Qb)))))) Qb)))))
  (Qe (Qj (pe_and (pe_not (aS hI (Hm hr) rfl (Qa (pv 8) (Qa (pv 3) Qb)))) (pe_one (aS hI (Hm hr) rfl (Qa (pv 8) (Qa (aS kF (Hm hr) rfl (Qa (pv 0) (Qa pe_dnewK (Qa (pv 1) Qb)))) Qb))))))))))))),?_⟩
 have Uz:=Gr.iN hb;have US:k ∈ ns:=Gr.dM gn hb;obtain ⟨km,kn⟩:=Bk.get_some eg;have Dx:=(ok.kd kd km).1;obtain ⟨iD,LB,Lz⟩:=Gr.iC R.toGoods US eg (Qu er);refine ⟨_,rfl,_,_,"tuple",true,rfl,Iv hT,by decide +kernel,_,rfl,iteF ?_⟩;refine ⟨_,Ja,p,_,Ja,.inr hT,Ja,_,Ja,iteF ?_⟩;refine ⟨_,rfl,p,_,_,_,rfl,rfl,hT,atI_nat (j:=0) rfl,_,_,"tuple",true,rfl,Iv hA,by decide +kernel,_,rfl,iteF ?_⟩;refine ⟨_,Ja,p,_,_,_,Ja,Ja,hT,atI_nat (j:=0) rfl,_,Ja,1,Ja,p,_,Ja,hT,fun c H1 s1 hc=>?_⟩;have hc:SqT K H1 c [.int (i:Nat),.int m]:=hc;refine ⟨a,c,_,_,Ja,Ja,s1.aH hA,hc,by rw [Ye]; show _+2<=_; omega,fun c2 H2 s2 kQ=>?_⟩;have mG:=s1.trans s2;have Xy:∀ x ∈ (pl.map fun n:Nat=>V.int (n:Int))++[V.int (i:Nat),V.int m],∃ z:Int,x=.int z/\0<=z:=fun x hx=>by
  rcases Qw hx with hx | hx
  ·obtain ⟨n,_,rfl⟩:=Qx hx;exact ⟨n,Ja,by omega⟩
  ·rcases Qv hx with rfl | hx
   ·exact ⟨_,Ja,by omega⟩
   ·rw [Qy hx]; exact ⟨m,Ja,m0⟩
 refine ⟨c2,Ja,⟨_,kQ⟩,?_⟩;refine for_it (walk_tup (xs:=(pl.map fun n:Nat=>V.int (n:Int))++[V.int (i:Nat),V.int m])) (fun j σ H3=>SB [] H2 H3/\∃ o4:Option V,σ=[some (.ref d),some u,some (.ref p),some y,o4,none,none,none,none]) ⟨SB.refl,none,Ja⟩ (fun j σ H3 hj h=>h.1.aH kQ) (fun j x σ H3' H3 hj h yy=>?_) (fun σ H3 h=>?_)
 ·obtain ⟨s3,o4,rfl⟩:=h;obtain ⟨rfl,ex⟩:=yy;obtain ⟨z,rfl,z0⟩:=Xy x (Qu ex);refine Sm ?_;refine ⟨_,rfl,_,_,"int",true,rfl,.base (.int z),by decide +kernel,_,rfl,iteF ?_⟩;refine ⟨_,rfl,_,_,"int",false,rfl,.base (.int z),by decide +kernel,_,rfl,iteF ?_⟩;refine ⟨_,Ja,_,_,Ja,Ja,_,Ja,?_⟩;rw [Qz (show ¬ z < 0 by omega)];exact iteF ⟨s3,_,Ja⟩
 obtain ⟨s3,o4,rfl⟩:=h;have fy:=mG.trans s3;refine ⟨_,Ja,?_⟩;refine b7 (b7 ?_);refine ⟨_,Ja,p,_,_,_,Ja,Ja,fy.aH hT,atI_nat (j:=0) rfl,a,Ja,⟨_,fy.aH hA⟩,?_⟩;refine for_it (walk_tup (xs:=pl.map fun n:Nat=>V.int (n:Int))) (fun j σ H4=>SB [] H3 H4/\∃ (hv:V) (h:Gr) (kz:Str) (o7:Option V),σ=[some (.ref d),some u,some (.ref p),some y,o4,some hv,some (.str kz),o7,none]/\GA K H4 hv h/\h.parts<=60/\((j < pl.length/\Gr.bareAt h (pl.drop j)=some k)\/(j=pl.length/\h=.nil/\kz=k)))
  ⟨SB.refl,u,g,_,none,rfl,hg.sb fy,gp,.inl ⟨by have:=List.length_pos_iff.mpr (Gr.wK hb); omega,hb⟩⟩ (fun j σ H4 hj h=>(fy.trans h.1).aH hA) (fun j x σ H4' H4 hj h yy=>?_) (fun σ H4 h=>?_)
 ·obtain ⟨s4,hv,h,kz,o7,rfl,VI,hp,jO⟩:=h;obtain ⟨rfl,ex⟩:=yy;rw [Ye] at hj;rw [List.getElem?_map] at ex;obtain ⟨n,en,rfl⟩:=Kr ex;obtain ⟨hj2,pT⟩:j < pl.length/\Gr.bareAt h (pl.drop j)=some k:=by
   rcases jO with h | h
   ·exact h
   ·omega
  have ed:pl.drop j=n::pl.drop (j+1):=by
   obtain ⟨h1,h2⟩:=Kq en;rw [<- h2]; exact List.drop_eq_getElem_cons h1
  rw [ed] at pT;obtain ⟨x,WZ,nxt⟩:∃ x,h.ps[n]?=some x/\((j+1 < pl.length/\Gr.bareAt x.1.2 (pl.drop (j+1))=some k)\/(j+1=pl.length/\x.1.2=.nil/\x.1.1=k)):=by
   by_cases hr:pl.drop (j+1)=[]
   ·rw [hr] at pT;obtain ⟨x,e1,e2⟩:=Gr.dw pT;have:=congrArg List.length hr;rw [List.length_drop,List.length_nil] at this;exact ⟨x,e1,.inr ⟨by omega,by rw [e2],by rw [e2]⟩⟩
   ·obtain ⟨x,e1,e2⟩:=Gr.cw hr pT;have:=List.length_pos_iff.mpr hr;rw [List.length_drop] at this;exact ⟨x,e1,.inl ⟨by omega,e2⟩⟩
  obtain ⟨ga,gs,rfl,jR,zL⟩:=vX VI;have gl:=zL.length;have nl:=(Kq WZ).1;obtain ⟨vp,WW,gz⟩:=zL.at WZ;obtain ⟨ad,bd,ux,rfl,h1,h2,h3,h4⟩:=rY gz;have xp:=h.bE x (Qu WZ);refine Sm ?_;refine ⟨_,Ja,_,Ja,ga,gs,Ja,.inr jR,_,_,Ja,Ja,_,Ja,?_⟩;rw [Qz (show ¬ ((gs.length:Nat):Int)<=(n:Int) by omega)];refine iteF ?_;refine ⟨_,Ja,_,Ja,ga,_,_,_,Ja,Ja,jR,atI_nat WW,ad,_,_,_,Ja,Ja,h1,atI_nat (j:=0) rfl,bd,_,Ja,h2,Ja,_,_,Ja,_,_,Ja,Ja,?_⟩;exact ⟨s4,ux,x.1.2,x.1.1,_,Ja,h3,by omega,nxt⟩
 obtain ⟨s4,hv,h,kz,o7,rfl,VI,hp,jO⟩:=h;rw [Ye] at jO;obtain ⟨rfl,rfl⟩:h=.nil/\kz=k:=by
  rcases jO with h | h
  ·omega
  ·exact h.2
 have mf:=fy.trans s4;refine ⟨_,Ja,Ja,_,Ja,?_⟩;have BV:kz ≠ "":=fun z=>by
  have:=Dx.1;rw [kn,z] at this;exact absurd this (by decide)
 rw [show decide (V.str kz=V.str "")=false from Qz (fun z=>BV (by injection z))];refine iteF ?_;refine ⟨_,Ja,Z0,fun e0 BP=>?_⟩;have t5:=Jb BP (.tup []);have he5:=gA (K:=K) t5;have MJ:=GA.sb VI t5;have fB:=mf.trans t5;generalize upd H4 e0 _=H5 at t5 he5 MJ fB;refine ⟨(Gr.nil).enc,.tuple [],MJ,.tup he5 .nil,Gr.yA,Gr.yA,_,Ja,?_⟩;rw [Gr.oE,Ya rfl];refine iteF ?_;obtain ⟨vv,Mf,tt,l,us,rfl,htt,hl,fQ⟩:=(hd.cH fB).val eg;have ul:=fQ.length;have il:i<=kd.rs.length:=by
  have:=(Kq er).1;rw [Yk] at this; omega
 refine ⟨_,Ja,p,_,_,_,Ja,Ja,fB.aH hT,atI_nat (j:=1) rfl,_,Ja,_,Ja,d,_,Ja,Mf,tt,_,_,_,Ja,Ja,htt,atI_nat (j:=1) rfl,l,us,Ja,.inl (SqL.of hl),_,_,Ja,Ja,_,Ja,?_⟩;rw [Qz (show ¬ (us.length:Int) < (i:Int) by omega)];refine iteF ?_;refine ⟨_,Ja,fun e ne=>?_⟩;have t6:=Jb ne (.dK []);have Jg:=dZ t6;have me:=fB.trans t6;have ed6:d ≠ e:=fun z=>by
  obtain ⟨aU,h1,_⟩:=hd.cH fB;rw [z,ne] at h1; cases h1
 generalize upd H5 e _=H6 at t6 Jg me;have gnb:Gr.Named b.names g:=fun x hx=>by
  obtain ⟨qT,e'⟩:=R.get _ (gn x hx);obtain ⟨m1,m2⟩:=Bk.get_some e';exact Ku ⟨qT,m1,m2⟩
 refine ⟨_,Ja,_,Ja,_,Ja,p,_,_,_,Ja,Ja,me.aH hT,atI_nat (j:=0) rfl,_,Ja,p,_,_,_,Ja,Ja,me.aH hT,atI_nat (j:=1) rfl,_,Ja,p,_,_,_,Ja,Ja,me.aH hT,atI_nat (j:=2) rfl,d,a,u,b,g,pl,kz,kd,i,r,m,C,Ja,hd.cH me,⟨ok,gnb⟩,⟨hg.sb me,go,by omega,by omega⟩,me.aH hA,hb,eg,er,m0,mB,by omega,fun x7 H7 s7 hx7=>?_⟩;have Dk:=me.trans s7;have he7:=s7.keep _ _ Jg aL;have M7:Memo K H7 e ρ ns []:=⟨⟨[],he7,.nil⟩,List.nodup_nil,fun _ h=>nomatch h⟩;have go2:=Gr.oz iD m0;have io:=Gr.lg (b:=b) m0 (by omega) go2 go hb;have B4:=Gr.j0 (b:=b) (n:=m) (fr:=Gr.gH r m) hb;have ipp:=Gr.la (b:=b) (n:=m) (fr:=Gr.gH r m) hb;have gd2:=Gr.oA iD m;have gp2:=Gr.lP iD m;have UY:pl.length*(g.parts+1)<=12*61:=Nat.mul_le_mul (by omega) (by omega);have WI:Gr.Named ns (Gr.gH r m):=Gr.pW (fun x hx=>by
  rcases Qw hx with hx | hx
  ·exact LB x hx
  ·exact Lz x hx) m
 have L9:=Gr.fA (b:=b) (n:=m) WI hb gn;have BR:∀ g':Gr,Gr.Named ns g'->∀ x ∈ g'.within,lv x.1.1 < 8:=fun g' hn x hx=>R.low _ (hn x hx);refine ⟨d,e,x7,b,ρ,ns,[],lv,_,_,8,Ja,hd.cH Dk,ed6,R,M7,⟨hx7,io,WS,by omega,by omega⟩,BR _ L9,by omega,fun x8 H8 ms s8 M8 _ hx8=>?_⟩;refine b7 ?_;have nE:kE H7 [e]:=kE.one he7;have hd8:=(hd.cH Dk).sb s8 (by simpa using ed6) nE;have Lx:SB [] H H8:=((fB.nil.trans (t6.nil (ps:=[e]))).trans (s7.nil.trans s8)).drop (fB.kS _ ne);have hle:(Gr.rk b ρ (Gr.stk b m (Gr.gH r m) pl g).1).lt t=false:=FY m (Kw _);refine ⟨_,Ja,_,Ja,x8,y,_,t,Ja,hx8,hy.sb Lx,Nat.lt_of_le_of_lt Rl.deep (by decide),Rl.deep,td,fun H9 s9=>?_⟩;rw [hle];refine ⟨_,Ja,_,Ja,iteT ?_⟩;have s09:=Lx.trans s9;refine ⟨_,Ja,_,Ja,fun e2 ne2=>?_⟩;have gO:=Jb ne2 (.dK []);have MV:=dZ gO;have hd9:=hd8.cH s9;have Xb:d ≠ e2:=fun z=>by
  obtain ⟨aU,h1,_⟩:=hd9;rw [z,ne2] at h1; cases h1
 generalize upd H9 e2 _=mP at gO MV;have M10:Memo K mP e2 ρ ns []:=⟨⟨[],MV,.nil⟩,List.nodup_nil,fun _ h=>nomatch h⟩;have sJ:=s09.trans gO;refine ⟨_,Ja,d,e2,u,b,ρ,ns,[],lv,g,_,8,Ja,hd9.cH gO,Xb,R,M10,⟨hg.sb sJ,go,WR,by omega,by omega⟩,BR _ gn,by omega,fun x11 vP wu uX M11 _ U2=>?_⟩;have Ls:SB [] H9 vP:=(gO.nil.trans uX).drop ne2;have cZ:=Gr.sA (b:=b) R.toGoods eg (Qu er) m0 go gn hb;refine ⟨x8,x11,_,_,Ja,hx8.sb (s9.trans Ls),U2,Nat.lt_of_le_of_lt Rl.deep (by decide),Rl.deep,lf2.deep,fun Ey jD=>?_⟩;rw [cZ];exact q Ey ((s09.trans Ls).trans jD)
abbrev zjv:List Str:=[mC,aB,ai,"e"]
theorem yQ:FnScope zjv [mC,aB,ai] (defScope JS):=fS
theorem zgl {ag:Addr} {c:Str->Addr} (B:BI mg) (T:ErrsM K mg c eC eN eK) (AD:GotX P w K mg base iq [ah,ao,aR] (94) (QH K ag (c "NoKind") (c "Endless") (c "NoReach"))) (F:Fun K dF dF JS f fd):FnOk P w K mg base CX0 (95) f fd [mC,aB,ai] (AV K ag):=by
 refine F.ok yQ (fun vs H Q E h=>?_) (fun _ A _ _ H vs Q E hr h=>?_)
 ·obtain ⟨v,z,y,b,g,ns,rfl,_⟩:=h
  rfl
 obtain ⟨v,z,y,b,g,ns,rfl,hv,ok,hz,gd,gp,gn,nl,qK,q0⟩:=h;refine ⟨_,Qc (ps_try_as (i:=3) (tb:=fun W=>tDrop (tCallS (QH K ag (c "NoKind") (c "Endless") (c "NoReach")) (WE W) (tCons (tVar 0) (tCons (tVar 1) (tCons (tVar 2) tNil))))) (ts:=fun a cls d=>(tSeq (tIfS (tOr (tNot (tB (tCB (C6 K a cls d) (tCons (tVar 3) (tCons (tC (.ty "ValueError")) tNil))))) (tB (tCB (Sj K a cls d) (tCons (tVar 3) (tCons (tTup (tCons (tC (.ref (c "NoBook"))) (tCons (tC (.ref (c "NoDrop"))) (tCons (tC (.ref (c "NoFall"))) (tCons (tC (.ref (c "NoGrove"))) (tCons (tC (.ref (c "NoLadder"))) (tCons (tC (.ref (c "NoName"))) tNil))))))) tNil))))) (tRet (tTup (tCons (tC (.str aF)) (tCons (tC (.str "")) tNil)))) tNext) (tSeq (tIfS (tB (tCB (Sj K a cls d) (tCons (tVar 3) (tCons (tTup (tCons (tC (.ref (c "NoNumber"))) (tCons (tC (.ref (c "NoPlace"))) (tCons (tC (.ref (c "NoRest"))) (tCons (tC (.ref (c "NoRise"))) (tCons (tC (.ref (c "NoRow"))) (tCons (tC (.ref (c "NoRule"))) (tCons (tC (.ref (c "NoWorths"))) (tCons (tC (.ref (c "NotEndless"))) (tCons (tC (.ref (c "TooGreat"))) (tCons (tC (.ref (c "TooLong"))) tNil))))))))))) tNil)))) (tRet (tTup (tCons (tC (.str aF)) (tCons (tC (.str "")) tNil)))) tNext) (tSeq (tIfS (tTest (tOp rNe (tBM K "list" (Yt K) (tLst (tCons (tCB (C6 K a cls d) (tCons (tVar 3) (tCons (tC (.ref (c "NoKind"))) tNil))) (tCons (tCB (C6 K a cls d) (tCons (tVar 3) (tCons (tC (.ref (c "Endless"))) tNil))) (tCons (tCB (C6 K a cls d) (tCons (tVar 3) (tCons (tC (.ref (c "NoReach"))) tNil))) tNil)))) (tCons (tC (.bl true)) tNil)) (tC (.int 1)))) (tRet (tTup (tCons (tC (.str aF)) (tCons (tC (.str "")) tNil)))) tNext) (tSeq (tIfS (tB (tCB (C6 K a cls d) (tCons (tVar 3) (tCons (tC (.ref (c "NoKind"))) tNil)))) (tRet (tTup (tCons (tC (.str "kind")) (tCons (EY K a cls d "kind" (tVar 3)) tNil)))) tNext) (tSeq (tIfS (tB (tCB (C6 K a cls d) (tCons (tVar 3) (tCons (tC (.ref (c "Endless"))) tNil)))) (tRet (tTup (tCons (tC (.str "endless")) (tCons (EY K a cls d "kind" (tVar 3)) tNil)))) tNext) (tRet (tTup (tCons (tC (.str "reach")) (tCons (tCB (_) (tCons (tCB (C6 K a cls d) (tCons (tVar 3) (tCons (tC (.ref (c "NoReach"))) tNil))) tNil)) tNil)))))))))) (Wout:=fun _ _ _ _=>False) rfl rfl yQ.nd rfl rfl ⟨rfl,by decide,Or.inl T.ya⟩ takes0
   (fun W pn xe tk _=>Qe (Kf (by exact (pB AD (Hm hr) rfl tk (Qa (pv 0) (Qa (pv 1) (Qa (pv 2) Qb)))))))
   (fun a oe cls d pn hz hf=>by exact (Qc (Qr (PW.pt (Kk (Qp (Qo (Qs (ES (.head _) hz hf) rfl B.isinstance boot_isinstance (Qa (pv 3) (Qa (X9 (T':="ValueError") rfl T.ve rfl) Qb))))) (pw_or1 (Qo (Qs (z5s (.head _) hz hf) rfl B.isinstance boot_isinstance (Qa (pv 3) (Qa (Ka (Qa (pe_glob (v:=.ref (c "NoBook")) rfl (T.glo "NoBook" (mi 4)) rfl) (Qa (pe_glob (v:=.ref (c "NoDrop")) rfl (T.glo "NoDrop" (mi 14)) rfl) (Qa (pe_glob (v:=.ref (c "NoFall")) rfl (T.glo "NoFall" (mi 10)) rfl) (Qa (pe_glob (v:=.ref (c "NoGrove")) rfl (T.glo "NoGrove" (.tail _ (.tail _ (.head _)))) rfl) (Qa (pe_glob (v:=.ref (c "NoLadder")) rfl (T.glo "NoLadder" (.head _)) rfl) (Qa (pe_glob (v:=.ref (c "NoName")) rfl (T.glo "NoName" (mi 18)) rfl) Qb))))))) Qb))))))) (Qe (Qj (Ka (Qa pe_str (Qa pe_str Qb))))) pss_nil)
  (Qc (Qr (Qo (Qs (z5s (.head _) hz hf) rfl B.isinstance boot_isinstance (Qa (pv 3) (Qa (Ka (Qa (pe_glob (v:=.ref (c "NoNumber")) rfl (T.glo "NoNumber" (mi 7)) rfl) (Qa (pe_glob (v:=.ref (c "NoPlace")) rfl (T.glo "NoPlace" (mi 3)) rfl) (Qa (pe_glob (v:=.ref (c "NoRest")) rfl (T.glo "NoRest" (.tail _ (.head _))) rfl) (Qa (pe_glob (v:=.ref (c "NoRise")) rfl (T.glo "NoRise" (mi 9)) rfl) (Qa (pe_glob (v:=.ref (c "NoRow")) rfl (T.glo "NoRow" (mi 17)) rfl) (Qa (pe_glob (v:=.ref (c "NoRule")) rfl (T.glo "NoRule" (mi 6)) rfl) (Qa (pe_glob (v:=.ref (c "NoWorths")) rfl (T.glo "NoWorths" (mi 13)) rfl) (Qa (pe_glob (v:=.ref (c "NotEndless")) rfl (T.glo "NotEndless" (mi 12)) rfl) (Qa (pe_glob (v:=.ref (c "TooGreat")) rfl (T.glo "TooGreat" (mi 8)) rfl) (Qa (pe_glob (v:=.ref (c "TooLong")) rfl (T.glo "TooLong" (mi 16)) rfl) Qb))))))))))) Qb)))) (Qe (Qj (Ka (Qa pe_str (Qa pe_str Qb))))) pss_nil)
  (Qc (Qr (pt_cmpR op_ne (Kn Ki PySem.F.slot_list_count PySem.F.type_list_count zap (pe_lst (Qa (Qs (ES (.head _) hz hf) rfl B.isinstance boot_isinstance (Qa (pv 3) (Qa (pe_glob (v:=.ref (c "NoKind")) rfl (T.glo "NoKind" (mi 5)) rfl) Qb))) (Qa (Qs (ES (.head _) hz hf) rfl B.isinstance boot_isinstance (Qa (pv 3) (Qa (pe_glob (v:=.ref (c "Endless")) rfl (T.glo "Endless" (mi 11)) rfl) Qb))) (Qa (Qs (ES (.head _) hz hf) rfl B.isinstance boot_isinstance (Qa (pv 3) (Qa (pe_glob (v:=.ref (c "NoReach")) rfl (T.glo "NoReach" (mi 15)) rfl) Qb))) Qb)))) (Qa pe_bl Qb)) Qg (nomark _)) (Qe (Qj (Ka (Qa pe_str (Qa pe_str Qb))))) pss_nil)
  (Qc (Qr (Qo (Qs (ES (.head _) hz hf) rfl B.isinstance boot_isinstance (Qa (pv 3) (Qa (pe_glob (v:=.ref (c "NoKind")) rfl (T.glo "NoKind" (mi 5)) rfl) Qb)))) (Qe (Qj (Ka (Qa pe_str (Qa (YQ (.head _) hz hf (pv 3)) Qb))))) pss_nil)
  (Qc (Qr (Qo (Qs (ES (.head _) hz hf) rfl B.isinstance boot_isinstance (Qa (pv 3) (Qa (pe_glob (v:=.ref (c "Endless")) rfl (T.glo "Endless" (mi 11)) rfl) Qb)))) (Qe (Qj (Ka (Qa pe_str (Qa (YQ (.head _) hz hf (pv 3)) Qb))))) pss_nil)
  (Qe (Qj (Ka (Qa pe_str (Qa (pe_callTy call_int1 rfl B.int boot_int (Qa (Qs (ES (.head _) hz hf) rfl B.isinstance boot_isinstance (Qa (pv 3) (Qa (pe_glob (v:=.ref (c "NoReach")) rfl (T.glo "NoReach" (mi 15)) rfl) Qb))) Qb)) Qb))))))))))))
  (Qe (Qj (Ka (Qa pe_str (Qa pe_str Qb))))),?_⟩
 refine ⟨_,Ja,_,Ja,_,Ja,v,z,y,b,g,ns,Ja,hv,ok,hz,gd,gp,gn,nl,fun n hn d H1 s1 nd hd=>?_,fun Je=>⟨fun n hn d H1 s1 nd hd=>?_,fun he=>?_⟩⟩
 rotate_left 2
 obtain ⟨ρ,t,F,B,P0,ow,hR,hg,fe,⟨hy,td,tl⟩,q⟩:=(q0 Je).2 he;refine ⟨ρ,t,1,F,B,P0,ow,hR,hg,fe,⟨hy,td,fun z=>(by rw [tl] at z; cases z)⟩,fun z=>(by rw [tl] at z; cases z),fun _ H1 s1=>?_⟩
 all_goals
  refine ⟨true,T.exm _ (by first | exact .head _ | exact .tail _ (.head _) | exact .tail _ (.tail _ (.head _))),fun _ x hx=>?_,fun z=>nomatch z⟩;refine ⟨_,rfl,_,_,_,true,rfl,T.exc _ (by first | exact .head _ | exact .tail _ (.head _) | exact .tail _ (.tail _ (.head _))),(by first | exact .inl rfl | exact .inr ⟨_,_,rfl,hd⟩),rfl,fun u r=>r,T.kve _ (by first | exact .head _ | exact .tail _ (.head _) | exact .tail _ (.tail _ (.head _))),?_⟩;refine ⟨_,Ja,iteF ?_⟩;refine ⟨_,Ja,by show 6<=sizeLine; decide,fun t1 nt1=>?_⟩;have et1:=Jb nt1 (.tup ((["NoBook","NoDrop","NoFall","NoGrove","NoLadder","NoName"]:List Str).map fun n=>V.ref (c n)))
  try have hd:=et1.keep _ _ hd aL
  have s1:=s1.trans et1;refine ⟨_,t1,_,_,_,rfl,T.exc _ (by first | exact .head _ | exact .tail _ (.head _) | exact .tail _ (.tail _ (.head _))),(by first | exact .inl rfl | exact .inr ⟨_,_,rfl,hd⟩),rfl,Qt,To ["NoBook","NoDrop","NoFall","NoGrove","NoLadder","NoName"],T.no (by first | exact .head _ | exact .tail _ (.head _) | exact .tail _ (.tail _ (.head _))) (ms:=["NoBook","NoDrop","NoFall","NoGrove","NoLadder","NoName"]) (by decide +kernel) (by decide +kernel),?_⟩;refine ⟨_,Ja,iteF (vV ?_)⟩;refine ⟨_,Ja,by show 10<=sizeLine; decide,fun t2 nt2=>?_⟩;have et2:=Jb nt2 (.tup ((["NoNumber","NoPlace","NoRest","NoRise","NoRow","NoRule","NoWorths","NotEndless","TooGreat","TooLong"]:List Str).map fun n=>V.ref (c n)))
  try have hd:=et2.keep _ _ hd aL
  have s1:=s1.trans et2;refine ⟨_,t2,_,_,_,rfl,T.exc _ (by first | exact .head _ | exact .tail _ (.head _) | exact .tail _ (.tail _ (.head _))),(by first | exact .inl rfl | exact .inr ⟨_,_,rfl,hd⟩),rfl,Qt,To ["NoNumber","NoPlace","NoRest","NoRise","NoRow","NoRule","NoWorths","NotEndless","TooGreat","TooLong"],T.no (by first | exact .head _ | exact .tail _ (.head _) | exact .tail _ (.tail _ (.head _))) (ms:=["NoNumber","NoPlace","NoRest","NoRise","NoRow","NoRule","NoWorths","NotEndless","TooGreat","TooLong"]) (by decide +kernel) (by decide +kernel),?_⟩;refine ⟨_,Ja,iteF (vV ?_)⟩
  first | (refine ⟨_,rfl,_,_,_,true,rfl,T.exc _ (by first | exact .head _ | exact .tail _ (.head _) | exact .tail _ (.tail _ (.head _))),(by first | exact .inl rfl | exact .inr ⟨_,_,rfl,hd⟩),rfl,fun u r=>r,T.is (by first | exact .head _ | exact .tail _ (.head _) | exact .tail _ (.tail _ (.head _))) (by decide +kernel),?_⟩) | (refine ⟨_,rfl,_,_,_,false,rfl,T.exc _ (by first | exact .head _ | exact .tail _ (.head _) | exact .tail _ (.tail _ (.head _))),(by first | exact .inl rfl | exact .inr ⟨_,_,rfl,hd⟩),rfl,fun u r=>r,T.xP (by first | exact .head _ | exact .tail _ (.head _) | exact .tail _ (.tail _ (.head _))) (by decide +kernel) (by decide +kernel),?_⟩)
  first | (refine ⟨_,rfl,_,_,_,true,rfl,T.exc _ (by first | exact .head _ | exact .tail _ (.head _) | exact .tail _ (.tail _ (.head _))),(by first | exact .inl rfl | exact .inr ⟨_,_,rfl,hd⟩),rfl,fun u r=>r,T.is (by first | exact .head _ | exact .tail _ (.head _) | exact .tail _ (.tail _ (.head _))) (by decide +kernel),?_⟩) | (refine ⟨_,rfl,_,_,_,false,rfl,T.exc _ (by first | exact .head _ | exact .tail _ (.head _) | exact .tail _ (.tail _ (.head _))),(by first | exact .inl rfl | exact .inr ⟨_,_,rfl,hd⟩),rfl,fun u r=>r,T.xP (by first | exact .head _ | exact .tail _ (.head _) | exact .tail _ (.tail _ (.head _))) (by decide +kernel) (by decide +kernel),?_⟩)
  first | (refine ⟨_,rfl,_,_,_,true,rfl,T.exc _ (by first | exact .head _ | exact .tail _ (.head _) | exact .tail _ (.tail _ (.head _))),(by first | exact .inl rfl | exact .inr ⟨_,_,rfl,hd⟩),rfl,fun u r=>r,T.is (by first | exact .head _ | exact .tail _ (.head _) | exact .tail _ (.tail _ (.head _))) (by decide +kernel),?_⟩) | (refine ⟨_,rfl,_,_,_,false,rfl,T.exc _ (by first | exact .head _ | exact .tail _ (.head _) | exact .tail _ (.tail _ (.head _))),(by first | exact .inl rfl | exact .inr ⟨_,_,rfl,hd⟩),rfl,fun u r=>r,T.xP (by first | exact .head _ | exact .tail _ (.head _) | exact .tail _ (.tail _ (.head _))) (by decide +kernel) (by decide +kernel),?_⟩)
  refine ⟨Z3,fun L nL=>?_⟩
  first | (have e4:=Jb nL (.lst [.bl true,.bl false,.bl false]); refine ⟨.inl ⟨rfl,_,SqL.of Qt⟩,L,[true,false,false],rfl,rfl,SqL.of Qt,rfl,_,rfl,?_⟩) | (have e4:=Jb nL (.lst [.bl false,.bl true,.bl false]); refine ⟨.inl ⟨rfl,_,SqL.of Qt⟩,L,[false,true,false],rfl,rfl,SqL.of Qt,rfl,_,rfl,?_⟩) | (have e4:=Jb nL (.lst [.bl false,.bl false,.bl true]); refine ⟨.inl ⟨rfl,_,SqL.of Qt⟩,L,[false,false,true],Ja,Ja,SqL.of Qt,Ja,_,Ja,?_⟩)
  refine iteF (vV ?_)
 ·refine ⟨_,rfl,_,_,_,false,rfl,T.exc _ (by first | exact .head _ | exact .tail _ (.head _) | exact .tail _ (.tail _ (.head _))),(by first | exact .inl rfl | exact .inr ⟨_,_,rfl,hd⟩),rfl,fun u r=>r,T.xP (by first | exact .head _ | exact .tail _ (.head _) | exact .tail _ (.tail _ (.head _))) (by decide +kernel) (by decide +kernel),?_⟩;refine ⟨_,Ja,iteF (vV ?_)⟩;refine ⟨_,rfl,_,_,_,false,rfl,T.exc _ (by first | exact .head _ | exact .tail _ (.head _) | exact .tail _ (.tail _ (.head _))),(by first | exact .inl rfl | exact .inr ⟨_,_,rfl,hd⟩),rfl,fun u r=>r,T.xP (by first | exact .head _ | exact .tail _ (.head _) | exact .tail _ (.tail _ (.head _))) (by decide +kernel) (by decide +kernel),?_⟩;refine ⟨_,Ja,iteF (vV ?_)⟩;refine ⟨_,rfl,_,_,_,true,rfl,T.exc _ (by first | exact .head _ | exact .tail _ (.head _) | exact .tail _ (.tail _ (.head _))),(by first | exact .inl rfl | exact .inr ⟨_,_,rfl,hd⟩),rfl,fun u r=>r,T.is (by first | exact .head _ | exact .tail _ (.head _) | exact .tail _ (.tail _ (.head _))) (by decide +kernel),?_⟩;refine .inr ⟨_,Ja,?_⟩;exact ⟨dU,fun Z nZ=>q Z _ ((s1.trans e4).trans (SB.new nZ _)) (SqT.of Qt)⟩
 ·have hd:=e4.keep _ _ hd aL;refine ⟨_,rfl,_,_,_,true,rfl,T.exc _ (by first | exact .head _ | exact .tail _ (.head _) | exact .tail _ (.tail _ (.head _))),(by first | exact .inl rfl | exact .inr ⟨_,_,rfl,hd⟩),rfl,fun u r=>r,T.is (by first | exact .head _ | exact .tail _ (.head _) | exact .tail _ (.tail _ (.head _))) (by decide +kernel),?_⟩;refine ⟨_,Ja,iteT ?_⟩;refine ⟨_,Ja,_,d,_,.str n,Ja,Ja,T.exc _ (.head _),T.nok _ (.head _),Ja,hd,Ja,?_⟩;exact ⟨dU,fun Z nZ=>qK n hn Z _ ((s1.trans e4).trans (SB.new nZ _)) (SqT.of Qt)⟩
 ·have hd:=e4.keep _ _ hd aL;refine ⟨_,rfl,_,_,_,false,rfl,T.exc _ (by first | exact .head _ | exact .tail _ (.head _) | exact .tail _ (.tail _ (.head _))),(by first | exact .inl rfl | exact .inr ⟨_,_,rfl,hd⟩),rfl,fun u r=>r,T.xP (by first | exact .head _ | exact .tail _ (.head _) | exact .tail _ (.tail _ (.head _))) (by decide +kernel) (by decide +kernel),?_⟩;refine ⟨_,Ja,iteF (vV ?_)⟩;refine ⟨_,rfl,_,_,_,true,rfl,T.exc _ (by first | exact .head _ | exact .tail _ (.head _) | exact .tail _ (.tail _ (.head _))),(by first | exact .inl rfl | exact .inr ⟨_,_,rfl,hd⟩),rfl,fun u r=>r,T.is (by first | exact .head _ | exact .tail _ (.head _) | exact .tail _ (.tail _ (.head _))) (by decide +kernel),?_⟩;refine ⟨_,Ja,iteT ?_⟩;refine ⟨_,Ja,_,d,_,.str n,Ja,Ja,T.exc _ (.tail _ (.head _)),T.nok _ (.tail _ (.head _)),Ja,hd,Ja,?_⟩;exact ⟨dU,fun Z nZ=>(q0 Je).1 n hn Z _ ((s1.trans e4).trans (SB.new nZ _)) (SqT.of Qt)⟩
theorem zl7:FnScope [bf,"kind"] [bf,"kind"] (defScope xc):=fS
theorem zjw {C:Addr} (F:Fun K "__init__" "NoKind.__init__" xc f fd):FnOk P w K mg base CX0 1 f fd [bf,"kind"] (Sr K C):=by
 refine F.ok zl7 (fun vs H Q E h=>?_) (fun _ A _ _ H vs Q E hr h=>?_)
 ·obtain ⟨a,y,rfl,_⟩:=h
  rfl
 obtain ⟨a,y,rfl,T,no,ha,q⟩:=h;refine ⟨_,Qe (ps_ost (pv 0) (pv 1)),?_⟩;exact ⟨_,Ja,_,Ja,a,C,Ja,T,no,.inl ⟨ha,q⟩⟩
theorem zj2:FnScope [bf,"kind"] [bf,"kind"] (defScope xf):=fS
theorem zi7 {C:Addr} (F:Fun K "__init__" "Endless.__init__" xf f fd):FnOk P w K mg base CX0 1 f fd [bf,"kind"] (Sr K C):=by
 refine F.ok zj2 (fun vs H Q E h=>?_) (fun _ A _ _ H vs Q E hr h=>?_)
 ·obtain ⟨a,y,rfl,_⟩:=h
  rfl
 obtain ⟨a,y,rfl,T,no,ha,q⟩:=h;refine ⟨_,Qe (ps_ost (pv 0) (pv 1)),?_⟩;exact ⟨_,Ja,_,Ja,a,C,Ja,T,no,.inl ⟨ha,q⟩⟩
abbrev HA:List Str:=[bf,"kinds",aN,"spreading","rows"]
theorem j2:FnScope HA [bf,"kinds"] (defScope sH):=fS
theorem zka {kG ag:Addr} (B:BI mg) (fK:Own K mg "NoBook" kG) (cU:ClsF K ag ["spread_by_name","rows_by_name"]) (Pe:Got P w K mg base gu [cO] (87) (z6t K)) (F:Fun K "__init__" "Book.__init__" sH f fd):FnOk P w K mg base (L2.CX P w) (88) f fd [bf,"kinds"] (P4 K ag kG):=by
 refine F.okX j2 (fun vs H Q E h=>?_) (fun _ A _ _ H vs Q E hr h=>?_)
 ·obtain ⟨x,dx,l,xs,ts,rfl,_⟩:=h
  rfl
 obtain ⟨x,dx,l,xs,ts,rfl,hx,Cs,hs,ha,hf,hl,q,qE⟩:=h;have bF:=bC hr;refine ⟨_,Qc (Qr (Qp (Qo (aS Pe (Hm hr) rfl (Qa (pv 1) Qb)))) (Qe (ps_raise rfl (takes_of rfl rfl rfl rfl) (pmk_own PySem.F.excBase_ValueError fK.q fK.gC fK.k (raises_own fK.s fK.t) rfl))) pss_nil)
  (Qc (ps_fld (pv 0) (pe_dc (own:=[(aN,2),("spreading",3),("rows",4)]) (g:=(gTup K 3 (gCons (gName 2) (gCons (gName 3) (gCons (gName 4) gNil))))) (tt:=tYes) (tk:=(tVar 2)) (tv:=(tVar 3)) rfl j2.nd (pi_list (pv 1)) (blkOk_by (N:=HA) (sc:=defScope sH) (by decide +kernel)) (fun _ _ _ _ _=>(pg_tup rfl (Qi (pg_name (i:=2) j2.nd rfl (.inl rfl)) (Qi (pg_name (i:=3) j2.nd rfl (.inl rfl)) (Qi (pg_name (i:=4) j2.nd rfl (.inl rfl)) pgs_nil))))) (fun _ _ _ _ _=>pts_nil) (fun _ _ _ _ _=>(pv 2)) (fun _ _ _ _ _=>(pv 3))) rfl)
  (Qe (ps_fld (pv 0) (pe_dc (own:=[(aN,2),("spreading",3),("rows",4)]) (g:=(gTup K 3 (gCons (gName 2) (gCons (gName 3) (gCons (gName 4) gNil))))) (tt:=tYes) (tk:=(tVar 2)) (tv:=(tCB (fun xs H Q=>∃ p ys,xs=[.ref p]/\((SqL K H p ys/\∀ l,H l=none->Q (.ref l) (upd H l (.tup ys)))\/(SqT K H p ys/\Q (.ref p) H))) (tCons (tVar 4) tNil))) rfl j2.nd (pi_list (pv 1)) (blkOk_by (N:=HA) (sc:=defScope sH) (by decide +kernel)) (fun _ _ _ _ _=>(pg_tup rfl (Qi (pg_name (i:=2) j2.nd rfl (.inl rfl)) (Qi (pg_name (i:=3) j2.nd rfl (.inl rfl)) (Qi (pg_name (i:=4) j2.nd rfl (.inl rfl)) pgs_nil))))) (fun _ _ _ _ _=>pts_nil) (fun _ _ _ _ _=>(pv 2)) (fun _ _ _ _ _=>(pe_callTy call_tuple_of rfl B.tuple boot_tuple (Qa (pv 4) Qb)))) rfl))),?_⟩
 refine ⟨_,Ja,l,xs,ts,Ja,SqL.of hs,ha,hf,hl,fun b H1 s1 hb=>?_⟩;refine ⟨_,Ja,?_⟩;cases b with
 | false=>exact iteT (qE (fun z=>nomatch (hb.mpr z)) H1 s1)
 | true =>
 refine iteF ?_;obtain ⟨bk,et,ok⟩:=hb.mp rfl;subst et;have q2:=q bk rfl ok;have tG:=(ha.sb s1).kd;have lN:=s1.keep _ _ hs aL;have tu:=s1.keep _ _ hx aL;have qp:=tG.length;have kY:=sizeLine_eq;have b8:=ok.len;have hlx:l ≠ x:=ne_of hs hx (fun z=>nomatch z);refine ⟨_,Ja,l,Ja,⟨_,SqL.of lN⟩,fun D hD=>?_⟩;refine YX (walk_list (xs:=xs)) hD (by omega) (fun i aU _=>aU=Bk.mZ (bk.take i)) rfl (fun H2 s2=>s2.fG aL (SqL.of lN)) (fun _ _ _ _ _ h=>h) (fun Pv i y H2 H' aU hi s2 yy hR kO fin _=>?_) (fun aU H2 s2 bj hR _=>?_)
 ·obtain ⟨rfl,ey⟩:=yy;obtain ⟨k,ek,t,r,zs,rfl,h1,h2,h3,_⟩:=tG.get ey;refine ⟨t,_,Ja,s2.aH h1,Ja,_,_,Ja,_,_,Ja,_,_,Ja,Ja,Ja,?_⟩;refine ⟨_,Ja,_,Ja,fin (Sum.inr k.n) _ _ SB.refl ?_⟩;rw [hR,K4,Yg,ek,Option.toList_some,Bk.mZ,Bk.mZ,Yj]
  ·rfl
  ·intro p hp e;obtain ⟨j,hj,rfl⟩:=Qx hp
   injection e with e
   exact Bk.j8 ok.nd ek j hj e
 ·rw [qp,Yh] at hR;subst hR;have om:=s2.keep _ _ tu aL;have kO:=s2.keep _ _ lN aL;have yn:=tG.sb s2 dR.nil;refine ⟨_,Ja,x,_,dx,_,Ja,om,cU.c,cU.no _ (by simp),by decide,?_⟩;have e1:putF (Str.ofString "spread_by_name") (V.ref D) []=[(Str.ofString "spread_by_name",V.ref D)]:=rfl;rw [e1];have t3:SB [x] H2 (upd H2 x (.ins ag dx [(Str.ofString "spread_by_name",V.ref D)])):=SB.setG om (by simp) (fun _ z=>nomatch z) (fun _ _ z=>nomatch z) _;have LW:dR H2 [] [x]:=fun p hp=>.inr fun xs z=>by rw [Qy hp,om] at z; cases z
  have ha3:=yn.sb t3 LW;have vC:=t3.keep _ _ kO (by simpa using hlx);have yh:upd H2 x (.ins ag dx [(Str.ofString "spread_by_name",V.ref D)]) x=some (.ins ag dx [(Str.ofString "spread_by_name",V.ref D)]):=Qt;have b0:=t3.keep _ _ bj (by simpa using ne_of bj om (fun z=>nomatch z));have fy:=((s1.trans s2).nil (ps:=[x])).trans t3;generalize upd H2 x _=H3 at t3 ha3 vC yh b0 fy;refine ⟨_,Ja,l,Ja,⟨_,SqL.of vC⟩,fun D2 tA=>?_⟩;refine YX (walk_list (xs:=xs)) tA (by omega) (fun i aU H4=>∃ us,aU=Bk.jo (bk.take i) us/\Bears K H4 Kd.xy us (bk.take i)) ⟨[],Ja,.nil⟩ (fun H4 s4=>s4.fG aL (SqL.of vC)) (fun i us H4 H5 s5 ⟨AW,e,hb⟩=>⟨AW,e,hb.sb s5 Kd.eT⟩) (fun Pv i y H4 H' aU hi s4 yy hR hl4 fin _=>?_) (fun aU H4 s4 i6 hR _=>?_)
  ·obtain ⟨rfl,ey⟩:=yy;obtain ⟨us,rfl,hb⟩:=hR;obtain ⟨k,ek,t,r,zs,rfl,h1,h2,h3,_⟩:=ha3.get ey;refine ⟨t,_,Ja,s4.aH h1,Ja,_,_,Ja,_,_,Ja,_,_,Ja,Ja,Ja,?_⟩;refine ⟨_,Ja,_,Ja,r,zs,Ja,.inl ⟨SqL.of (s4.keep _ _ h2 aL),fun p hp=>?_⟩⟩;have t5:=Jb hp (.tup zs);refine fin (Sum.inr k.n) _ _ t5 ⟨us++[.ref p],?_,?_⟩
   ·rw [K4,Yg,ek,Option.toList_some,Bk.jo,Bk.jo,List.zipWith_append hb.length.symm]
    ·rfl
    ·intro p hp e;obtain ⟨j,hj,e2⟩:=z7p hp;rw [e2] at e
     injection e with e
     exact Bk.j8 ok.nd ek j hj e
   ·rw [Yg,ek,Option.toList_some];exact Bears.append (hb.sb t5 Kd.eT) (.cons (.tup (.inl (.inl Qt)) (Bears.dp ((h3.sb s4 Ru.af).sb t5 Ru.af))) .nil)
  ·rw [qp,Yh] at hR;obtain ⟨us,rfl,hb⟩:=hR;have yg:=s4.keep _ _ yh aL;refine ⟨_,Ja,x,_,dx,_,Ja,yg,cU.c,cU.no _ (by simp),by simp,?_⟩;have t5:SB [x] H4 (upd H4 x (.ins ag dx (Xo D D2))):=SB.setG yg (by simp) (fun _ z=>nomatch z) (fun _ _ z=>nomatch z) _;refine q2 _ ((fy.trans s4.nil).trans t5) ⟨x,dx,D,D2,us,Ja,Qt,?_,?_,hb.sb t5 Kd.eT⟩
   ·exact t5.keep _ _ (s4.keep _ _ b0 aL) (by simpa using ne_of (s4.keep _ _ b0 aL) yg (fun z=>nomatch z))
   ·exact t5.keep _ _ i6 (by simpa using ne_of i6 yg (fun z=>nomatch z))
abbrev XG:List Str:=[bf]
theorem zjj:FnScope XG [bf] (defScope xi):=fS
theorem zl4 {ag:Addr} (B:BI mg) (cU:ClsF K ag ["spread_by_name","rows_by_name"]) (F:Fun K eS "Book.names" xi f fd):FnOk P w K mg base CX0 (1) f fd [bf] (La K ag):=by
 refine F.ok zjj (fun vs H Q E h=>?_) (fun _ A _ _ H vs Q E hr h=>?_)
 ·obtain ⟨v,b,rfl,_⟩:=h
  rfl
 obtain ⟨v,b,rfl,hb,hl,q⟩:=h;refine ⟨_,Qe (Qj (pe_callTy (call_listD rfl) rfl B.list boot_list (Qa (pe_fld (pv 0) rfl) Qb))),?_⟩;obtain ⟨a,dx,d1,d2,us,rfl,h1,h2,h3,h4⟩:=hb;refine ⟨_,Ja,a,_,dx,_,_,Ja,h1,cU.c,cU.no _ (by simp),Ja,d1,_,Ja,.inl h2,fun p hp=>?_⟩;exact q p _ (SB.new hp _) hp (by rw [Qt,Bk.mZ,List.map_map,List.map_map]; rfl)
abbrev XD:List Str:=[bf,aN]
theorem zje:FnScope XD [bf,aN] (defScope xg):=fS
theorem zi8 {ag aq:Addr} (B:BI mg) (cU:ClsF K ag ["spread_by_name","rows_by_name"]) (tY:GotX P w K mg base c6 [ah,aN] (3) (QC K ag aq)) (F:Fun K "spreads" "Book.spreads" xg f fd):FnOk P w K mg base (L2.CX P w) (4) f fd [bf,aN] (QL K ag aq):=by
 refine F.okX zje (fun vs H Q E h=>?_) (fun _ A _ _ H vs Q E hr h=>?_)
 ·obtain ⟨v,b,n,rfl,_⟩:=h
  rfl
 obtain ⟨v,b,n,rfl,hb,hl,qk,qE⟩:=h;refine ⟨_,Qc (Kf (pB tY (Hm hr) rfl (takes_of rfl rfl rfl rfl) (Qa (pv 0) (Qa (pv 1) Qb))))
  (Qe (Qj (pe_dget (u1 hr) (pe_fld (pv 0) rfl) (pv 1) (fun _ _=>rfl)))),?_⟩
 refine ⟨_,Ja,_,Ja,_,b,n,Ja,hb,hl,fun k e H1 s1=>?_,qE⟩;obtain ⟨a,dx,d1,d2,us,rfl,h1,h2,h3,h4⟩:=hb.cH s1;refine ⟨_,Ja,a,_,dx,_,_,Ja,h1,cU.c,cU.no _ (by simp),Ja,_,Ja,d1,V.bl k.w,Ja,jk h2 (by rw [Bk.yM,e]; rfl),qk k e H1 s1⟩
abbrev XF:List Str:=[bf,aN]
theorem zjc:FnScope XF [bf,aN] (defScope xh):=fS
theorem zl8 {ag aq:Addr} (B:BI mg) (cU:ClsF K ag ["spread_by_name","rows_by_name"]) (tY:GotX P w K mg base c6 [ah,aN] (3) (QC K ag aq)) (F:Fun K "rules" "Book.rules" xh f fd):FnOk P w K mg base (L2.CX P w) (4) f fd [bf,aN] (Qh K ag aq):=by
 refine F.okX zjc (fun vs H Q E h=>?_) (fun _ A _ _ H vs Q E hr h=>?_)
 ·obtain ⟨v,b,n,rfl,_⟩:=h
  rfl
 obtain ⟨v,b,n,rfl,hb,hl,Vi,qk,qE⟩:=h;refine ⟨_,Qc (Kf (pB tY (Hm hr) rfl (takes_of rfl rfl rfl rfl) (Qa (pv 0) (Qa (pv 1) Qb))))
  (Qe (Qj (pe_callTy call_list_of rfl B.list boot_list (Qa (pe_dget (u1 hr) (pe_fld (pv 0) rfl) (pv 1) (fun _ _=>rfl)) Qb)))),?_⟩
 refine ⟨_,Ja,_,Ja,_,b,n,Ja,hb,hl,fun k e H1 s1=>?_,qE⟩;obtain ⟨a,dx,d1,d2,us,rfl,h1,h2,h3,h4⟩:=hb.cH s1;obtain ⟨u,hv,hu⟩:=Bk.pL n h4 e;refine ⟨_,Ja,a,_,dx,_,_,Ja,h1,cU.c,cU.no _ (by simp),Ja,_,Ja,d2,u,Ja,jk h3 hv,?_⟩;cases hu with
 | tup ht hd=>exact ⟨_,_,Ja,.inr ht,fun l hl=>qk k e l _ _ (s1.trans (SB.new hl _)) (s1.kS l hl) Qt ((Bears.of hd).sb (Jb hl _) Ru.af)⟩
theorem zl9 {σ:L2.St} {H:Hp} {Q:L2.St->Hp->Prop} (h:Q (σ.set i (some v)) H):gName i v σ H Q:=h
abbrev Yp:List Str:=[bH,aa,aw,"_law_strange","_law_ring","_law_unknown",a9,aB,"_law_inner",fb,mC,"_law_whole","_law_more","_law_goal_here_here","_law_here","_law_endless","_law_bare","_law_far",df]
theorem bQ:FnScope Yp [bH] (defScope EI):=fS
theorem zge {ag kG aq cz jb:Addr} (B:BI mg) (Pj:Got P w K mg base ir [bH] (1) (YD K)) (XM:Got P w K mg base cb [aa,uA] (16) (Ze K)) (br:Got P w K mg base bK [aa,aQ] (1) (AU)) (qe:Got P w K mg base aW [aa,a9,aX,dY] (14) (C8 K 13)) (XO:GotI P w K mg base "Book" ag [bf,"kinds"] (88) (P4 K ag kG)) (Po:Got P w K mg base ft [aw,mQ] (1) (ZY K)) (kF:Got P w K mg base bY [aw,bc,aB] (220) (C3 K 177)) (AL:Got P w K mg base bU [aa,aX] (62) (Iq K 20)) (O1:GotX P w K mg base EG [ah,ao] (73) (Zg K ag aq cz)) (ua:Got P w K mg base dF [mC,aB,ai] (95) (AV K ag)) (vQ:Got P w K mg base cG [aI,ax] (41) (QJ K)) (tW:Got P w K mg base dj [aI,ax] (41) (KP K)) (tZ:Got P w K mg base bS [ai] (40) (EN K 40)) (oK:Got P w K mg base bL [dX] (1) (KU K)) (Pp:Got P w K mg base aY [aa,ai] (42) (Zr K)) (Ph:Got P w K mg base dG [aw,aB,uw,aY] (225) (ZG K)) (AD:GotX P w K mg base iq [ah,ao,aR] (94) (QH K ag aq cz jb)) (F:Fun K "law" "law" EI f fd):FnOk P w K mg base CX0 (230) f fd [bH] (spLaw K):=by
 refine F.ok bQ (fun vs H Q E h=>?_) (fun _ A _ _ H vs Q E hr h=>?_)
 ·obtain ⟨a,ns,rfl,_⟩:=h
  rfl
 obtain ⟨a,ns,rfl,hs,nl,q⟩:=h;have bF:=bC hr;refine ⟨_,Qc (ps_set (i:=1) bQ.nd rfl (.inl rfl) (aS Pj (Hm hr) rfl (Qa (pv 0) Qb)))
  (Qc (ps_set (i:=2) bQ.nd rfl (.inr rfl) (aS XM (Hm hr) rfl (Qa (pv 1) (Qa Qg Qb))))
  (Qc (ps_setLc (i:=3) (own:=[(df,18)]) (g:=(gName 18)) (tt:=(tB (tDNotIn (tVar 18) (tVar 2)))) (te:=(tVar 18)) rfl bQ.nd rfl rfl (sw_true rfl rfl rfl (by decide +kernel)) (pi_str pe_str) (blkOk_by (N:=Yp) (sc:=defScope EI) (by decide +kernel)) (fun _ _ _ _ _=>(pg_name (i:=18) bQ.nd rfl (.inl rfl))) (fun _ _ _ _ _=>(pts_one (pt_cmp (pc_dnotin (u1 hr) (pv 18) (pv 2))))) (fun _ _ _ _ _=>(pv 18)))
  (Qc (ps_set (i:=4) bQ.nd rfl (.inl rfl) (Qm ix_list (pv 3) (aS br (Hm hr) rfl (Qa (pv 1) (Qa Qg Qb))) (fun _ _=>rfl)))
  (Qc (ps_set (i:=5) bQ.nd rfl (.inl rfl) (pe_slice sl_list (pv 3) (po_some Qg) (po_some Qg)))
  (Qc (ps_set (i:=6) bQ.nd rfl (.inl rfl) (pe_callTy (call_listD rfl) rfl B.list boot_list (Qa (pv 2) Qb)))
  (Qc (ps_set (i:=7) bQ.nd rfl (.inl rfl) (aS qe (Hm hr) rfl (Qa (pv 1) (Qa (pv 6) (Qa (aS br (Hm hr) rfl (Qa (pv 1) (Qa Qg Qb))) (Qa (pe_op op_pow Qg Qg) Qb))))))
  (Qc (ps_set (i:=8) bQ.nd rfl (.inl rfl) (Ka (Qa (Ka (Qa (Ka (Qa (pv 4) (Qa (Ka Qb) Qb))) (Qa Qg Qb))) Qb)))
  (Qc (Qr (pt_cmpR op_eq (aS br (Hm hr) rfl (Qa (pv 1) (Qa Qg Qb))) Qg (nomark _)) (Qe (ps_set (i:=8) bQ.nd rfl (.inl rfl) (Ka (Qa (Ka (Qa (Ka (Qa (Qm ix_list (pv 6) Qg (fun _ _=>rfl)) (Qa (Ka (Qa (Ka (Qa (Ka (Qa (pv 4) (Qa (Ka Qb) Qb))) (Qa Qg Qb))) Qb)) Qb))) (Qa Qg Qb))) Qb)))) pss_nil)
  (Qc (ps_set (i:=9) bQ.nd rfl (.inl rfl) (Qm ix_list (pe_lst (Qa (Ka (Qa (pv 8) (Qa (Ka Qb) Qb))) (Qa (Ka (Qa (Ka Qb) (Qa (pv 8) Qb))) Qb))) (aS br (Hm hr) rfl (Qa (pv 1) (Qa Qg Qb))) (fun _ _=>rfl)))
  (Qc (ps_set (i:=10) bQ.nd rfl (.inl rfl) (zeq XO (Hm hr) rfl (Qa (pe_op op_cat (aS Po (Hm hr) rfl (Qa (pv 2) (Qa (pe_cmpR op_eq (aS br (Hm hr) rfl (Qa (pv 1) (Qa Qg Qb))) Qg (nomark _)) Qb))) (pe_lst (Qa (Ka (Qa (pv 4) (Qa pe_bl (Qa (pe_lst (Qa (pv 9) Qb)) Qb)))) Qb))) Qb)))
  (Qc (ps_set (i:=11) bQ.nd rfl (.inl rfl) (aS kF (Hm hr) rfl (Qa (pv 2) (Qa pe_dnewK (Qa (pv 7) Qb)))))
  (Qc (ps_set (i:=12) bQ.nd rfl (.inl rfl) (aS AL (Hm hr) rfl (Qa (pv 1) (Qa (aS br (Hm hr) rfl (Qa (pv 1) (Qa Qg Qb))) Qb))))
  (Qc (Qr (PW.pt (Kk (pt_cmpR (op_neD (mb hr)) (KO O1 (Hm hr) rfl (Qa (pv 10) (Qa (pv 7) Qb))) (pv 11) (nomark _)) (pw_or1 (pt_cmpR (op_neD (mb hr)) (aS ua (Hm hr) rfl (Qa (pv 10) (Qa (pv 7) (Qa (pv 11) Qb)))) (Ka (Qa pe_str (Qa Qg Qb))) (nomark _))))) (Qe (Qj pe_bl)) pss_nil)
  (Qc (ps_for PassesOwn.never rfl (pi_list (pe_lst (Qa (aS tW (Hm hr) rfl (Qa (pv 11) (Qa (pv 12) Qb))) (Qa (aS vQ (Hm hr) rfl (Qa (pv 11) (Qa (pv 12) Qb))) (Qa (aS vQ (Hm hr) rfl (Qa (pv 11) (Qa (Ka (Qa (Ka (Qa (Ka Qb) (Qa Qg Qb))) Qb)) Qb))) Qb))))) (pg_name (i:=13) bQ.nd rfl (.inl rfl))
   (Qc (ps_set (i:=14) bQ.nd rfl (.inl rfl) (aS tZ (Hm hr) rfl (Qa (pv 13) Qb)))
  (Qe (Qr (PW.pt (Kl (pt_cmpR op_le (Qm ix_list (pv 14) Qg (fun _ _=>rfl)) Qg (nomark _)) (Kl (pt_cmpR op_le (Qm ix_list (pv 14) Qg (fun _ _=>rfl)) Qg (nomark _)) (pw_and1 (pt_cmpR op_lt (Qm ix_list (pv 14) Qg (fun _ _=>rfl)) (pe_op op_pow Qg Qg) (nomark _)))))) (Qe (Qr (pt_cmpR (op_neD (mb hr)) (aS ua (Hm hr) rfl (Qa (pv 10) (Qa (pv 7) (Qa (pv 13) Qb)))) (Ka (Qa pe_str (Qa Qg Qb))) (nomark _)) (Qe (Qj pe_bl)) pss_nil)) pss_nil))))
  (Qc (ps_set (i:=15) bQ.nd rfl (.inl rfl) (aS oK (Hm hr) rfl (Qa (pe_op op_cat (pe_callTy call_list_of rfl B.list boot_list (Qa (pv 7) Qb)) (pe_lst (Qa (Ka (Qa (Ka (Qa (Qm ix_list (pv 6) (pe_un un_neg Qg) (fun _ _=>rfl)) (Qa (Ka (Qa (Ka (Qa (Ka (Qa (pv 4) (Qa (Ka Qb) Qb))) (Qa Qg Qb))) Qb)) Qb))) (Qa Qg Qb))) Qb))) Qb)))
  (Qc (ps_set (i:=16) bQ.nd rfl (.inl rfl) (aS br (Hm hr) rfl (Qa (pv 1) (Qa Qg Qb))))
  (Qc (ps_set (i:=17) bQ.nd rfl (.inl rfl) (aS oK (Hm hr) rfl (Qa (pe_op op_cat (pe_callTy call_list_of rfl B.list boot_list (Qa (pv 15) Qb)) (pe_lst (Qa (Ka (Qa (Ka (Qa (Qm ix_list (pv 5) (pv 16) (fun _ _=>rfl)) (Qa (Ka Qb) Qb))) (Qa Qg Qb))) (Qa (Ka (Qa (Ka (Qa (pv 4) (Qa (Ka (Qa (Ka (Qa (Ka (Qa (Qm ix_list (pv 5) (pe_op op_sub Qg (pv 16)) (fun _ _=>rfl)) (Qa (Ka Qb) Qb))) (Qa Qg Qb))) Qb)) Qb))) (Qa Qg Qb))) Qb)))) Qb)))
  (Qc (ps_for PassesOwn.never rfl (pi_list (pe_lst (Qa (Ka Qb) (Qa (pv 11) Qb)))) (pg_name (i:=13) bQ.nd rfl (.inl rfl))
   (Qe (Qr (PW.pt (Kk (pt_cmpR (op_neD (mb hr)) (aS ua (Hm hr) rfl (Qa (pv 10) (Qa (pv 15) (Qa (pv 13) Qb)))) (Ka (Qa pe_str (Qa (pv 4) Qb))) (nomark _)) (pw_or1 (pt_cmpR (op_neD (mb hr)) (aS ua (Hm hr) rfl (Qa (pv 10) (Qa (pv 17) (Qa (pv 13) Qb)))) (Ka (Qa pe_str (Qa (Qm ix_list (pv 5) Qg (fun _ _=>rfl)) Qb))) (nomark _))))) (Qe (Qj pe_bl)) pss_nil)))
  (Qc (Qr (pt_cmpR (op_eqD (mb hr)) (pv 7) (Ka Qb) (nomark _)) (Qe (Qj (pe_cmpR (op_eqD (mb hr)) (aS ua (Hm hr) rfl (Qa (pv 10) (Qa (Ka Qb) (Qa (Ka Qb) Qb)))) (Ka (Qa pe_str (Qa Qg Qb))) (nomark _)))) pss_nil)
  (Qc (ps_set (i:=13) bQ.nd rfl (.inl rfl) (aS Pp (Hm hr) rfl (Qa (pv 1) (Qa (pv 11) Qb))))
  (Qe (Qj (aS Ph (Hm hr) rfl (Qa (pv 2) (Qa (pv 7) (Qa (KO AD (Hm hr) rfl (Qa (pv 10) (Qa (pv 7) (Qa (pv 13) Qb)))) (Qa (pv 13) Qb))))))))))))))))))))))))))),?_⟩
 have kY:=sizeLine_eq;refine ⟨_,Ja,a,ns,Ja,hs,nl,fun p H1 s1 np hp=>?_⟩;obtain ⟨cl,hp⟩:=bR.of hp;refine b7 ?_;refine ⟨_,Ja,p,cl,5,Ja,hp,by decide,by decide,fun d b H2 s2 eY nd dp VW drawn=>?_⟩;refine b7 ?_;have b5:=drawn.len;have bnl:b.names.length=b.length:=List.length_map ..;refine ⟨_,Ja,fun D nD=>?_⟩;refine oU (walk_str (z:="abcdefghij")) nD (by show 10 < sizeLine; decide) (fun i ws _=>ws=((kH.take i).filter fun n=>decide (n ∉ b.names)).map V.str) rfl (fun _ _=>trivial) (fun _ _ _ _ _ h=>h) (fun Pv i x Hq H3 ws hi s3 y hR hu fin skip=>?_) (fun ws H3 s3 b0 hR hu=>?_)
 ·obtain ⟨rfl,c,ec,rfl⟩:=y;refine ⟨rfl,?_⟩;have ea:=zf3 ec;obtain ⟨o,ho,hb⟩:=(VW.sb s3 aL kE.nil).has (⟨#[c]⟩:Str);refine ⟨_,Ja,_,Ja,d,o,Ja,ho,?_⟩;have ug:=zj6 (N:=b.names) ea;rw [hb];by_cases hm:(⟨#[c]⟩:Str) ∈ b.names
  ·rw [Ya hm];refine ⟨_,Ja,iteF (skip _ SB.refl ?_)⟩;rw [ug,if_neg (fun z=>z hm),Kz]; exact hR
  ·rw [Qz hm];refine ⟨_,Ja,iteT ⟨_,Ja,fin _ _ SB.refl ?_⟩⟩;rw [ug,if_pos hm,Yj,hR]; rfl
 have S:=zan (ns:=b.names) (by omega);rw [show (kH.take ("abcdefghij":Str).cps.size)=kH from by decide +kernel] at hR;rw [hR] at b0;clear hR hu;generalize (kH.filter fun n=>decide (n ∉ b.names))=ss at S b0;have s5:=S.len;have mF:=S.le;have BN:∀ {H:Hp},bR H p cl->kE H [p]:=fun h=>by obtain ⟨aU,h⟩:=h.IW; exact kE.one h
 have oo:=eY.sb s3;have M5:=VW.sb s3 aL kE.nil;have Dnp:D ≠ p:=(eY.ne nD).symm;refine b7 ?_;refine ⟨_,Ja,_,Ja,p,cl,3,Ja,oo,by decide,by decide,fun r4 H4 Ra r43 s4 kN=>?_⟩;obtain ⟨rn,ern⟩:∃ rn:Nat,r4=(rn:Int):=⟨r4.toNat,by omega⟩;subst ern;obtain ⟨rg,R3⟩:∃ rg,ss[rn]?=some rg:=⟨_,Kp (by omega)⟩;have i6:=s4.keep _ _ b0 (by simpa using Dnp);refine ⟨D,_,_,_,Ja,Ja,SqL.of i6,atI_nat (by rw [List.getElem?_map,R3]; rfl),?_⟩;refine b7 ?_;refine ⟨_,Ja,3,Ja,5,Ja,D,_,Ja,SqL.of i6,fun U nU=>?_⟩;obtain ⟨u0,e0⟩:∃ u0,ss[3]?=some u0:=⟨_,Kp (by omega)⟩;obtain ⟨u1,e1⟩:∃ u1,ss[4]?=some u1:=⟨_,Kp (by omega)⟩;rw [zlf (by rw [Ye]; omega)];have cut:((ss.map V.str).drop 3).take 2=[V.str u0,V.str u1]:=by
  obtain ⟨h3,g3⟩:=Kq e0;obtain ⟨h4,g4⟩:=Kq e1;rw [<- List.map_drop,<- List.map_take,List.drop_eq_getElem_cons h3,List.drop_eq_getElem_cons h4,g3,g4]
  rfl
 rw [cut];have t5:=Jb nU (.lst [.str u0,.str u1]);have Jl:=dZ t5;have Up:U ≠ p:=(kN.ne nU).symm;have jh:=kN.sb t5;have rC:=(M5.sb s4 (by simpa using dp) (BN oo)).sb t5 aL kE.nil;have BC:SB [p] H2 (upd H4 U (.lst [.str u0,.str u1])):=(s3.nil.trans s4).trans t5.nil;generalize upd H4 U _=H5 at t5 Jl jh rC BC;clear M5 oo kN b0 i6 hp VW s3;refine b7 ?_;obtain ⟨us,Jh,ff⟩:=id rC;have ul:=ff.length;refine ⟨_,Ja,d,_,Ja,.inl Jh,fun N nN=>?_⟩;have ekn:(j9 b.names us).map (fun kv=>kV kv.1)=b.names.map V.str:=by
  have h:=SF (ns:=b.names) (us:=us) (by omega);have h2:=congrArg (List.map kV) h;rw [List.map_map,List.map_map] at h2;exact h2
 rw [ekn];have t6:=Jb nN (.lst (b.names.map V.str));have GJ:=dZ t6;have Np:N ≠ p:=(jh.ne nN).symm;have oN:=jh.sb t6;have vD:=rC.sb t6 aL kE.nil;have Wb:=t6.keep _ _ Jl aL;have IM:=BC.trans t6.nil;generalize upd H5 N _=H6 at t6 GJ oN vD Wb IM;clear Jh ff rC jh BC Jl;refine b7 ?_;refine ⟨_,Ja,_,Ja,_,Ja,p,cl,9,Ja,oN,by decide,by decide,fun r7 H7 r70 r79 s7 oM=>?_⟩;refine ⟨_,_,Ja,Ja,⟨by decide,by decide,by decide⟩,?_⟩;obtain ⟨gn,egn⟩:∃ gn:Nat,r7=(gn:Int):=⟨r7.toNat,by omega⟩;subst egn;have Nv:=s7.keep _ _ GJ (by simpa using Np);have e9:(10:Int) ^ (9:Int).toNat=10 ^ 9:=rfl;have b1:=drawn.ok.pos;refine nJ ?_;show C8 K 13 [.ref p,.ref N,.int ((gn:Nat):Int),.int (10 ^ (9:Int).toNat)] _ _ _;rw [e9];refine ⟨p,N,cl,b.names,gn,10 ^ 9,Ja,oM,⟨Nv,Np,by omega,fun n hn=>drawn.ok.names n hn⟩,by omega,by omega,by decide,by decide,fun gv g H8 s8 pQ hg8 go gp gd rG _=>?_⟩;refine b7 ?_;have E6:=s7.trans s8;have QW:=IM.trans E6;have MZ:=vD.sb E6 (by simpa using dp) (BN oN);have Wg:=E6.keep _ _ GJ (by simpa using Np);have Nn:=E6.keep _ _ Wb (by simpa using Up);clear GJ Nv Wb vD oN oM s7 s8 E6 IM;refine Bz (CU ?_);refine Tc (K:=K) rfl fun iv H9 s9 hiv=>?_;refine b7 ?_;have vy:=pQ.sb s9;have rgm:=(S.mem rg).mp (Qu R3);have Ff:=Sl _ rgm.1;obtain ⟨n0,en0⟩:∃ n0,b.names[0]?=some n0:=⟨_,Kp (by omega)⟩;have n0m:=Qu en0;have n0o:=drawn.ok.names n0 n0m;refine AS (fun σ' H'=>∃ (iv:V) (gi:Gr),σ'=[some (.ref a),some (.ref p),some (.ref d),some (.ref D),some (.str rg),some (.ref U),some (.ref N),some gv,some iv,none,none,none,none,none,none,none,none,none,none]/\SB [p] H8 H'/\bR H' p cl/\GA K H' iv gi/\In55 b.names rg gi) (fun nx ji=>?_) (fun σ' mP h=>?_)
 ·refine ⟨_,Ja,p,cl,2,Ja,vy,by decide,by decide,fun Dm mP ycg ycf mF jG=>?_⟩;have xk:SB [p] H8 mP:=s9.nil.trans mF;refine ⟨rfl,_,Ja,?_⟩;by_cases w1:Dm=1
  ·rw [show decide (V.int Dm=V.int 1)=true from Ya (by rw [w1])];have Wi:=xk.keep _ _ Wg (by simpa using Np);refine iteT ⟨_,Ja,N,_,_,_,Ja,Ja,SqL.of Wi,atI_nat (j:=0) (by rw [List.getElem?_map,en0]; rfl),?_⟩;refine Tc (K:=K) rfl fun jv vP uX hjv=>?_;refine ⟨dU,fun T1 UM=>?_⟩;have hY:=Jb UM (.tup [.str n0,jv]);have CJ:=gA (K:=K) hY;have MH:=GA.sb hjv hY;have Dj:=uX.trans hY;generalize upd vP T1 _=Ey at hY CJ MH Dj;refine ⟨dU,fun T2 BQ=>?_⟩;have xa:=Jb BQ (.tup [.ref T1,.int 1]);have Jq:=gA (K:=K) xa;have NG:=xa.aH CJ;have MG:=GA.sb MH xa;have Di:=Dj.trans xa;generalize upd Ey T2 _=OW at xa Jq NG MG Di;refine ⟨Z1,fun T3 UL=>?_⟩;have kX:=Jb UL (.tup [.ref T2]);have Dh:=Di.trans kX;have hg:GA K (upd OW T3 (.tup [.ref T2])) (.ref T3) (.cons n0 (.cons rg .nil 2 .nil) 1 .nil):=QE (bs:=[((n0,.cons rg .nil 2 .nil),1)]) (SqT.of Qt) (.cons (Dp.tup (kX.aH Jq) (.cons (Dp.tup (kX.aH NG) (.cons (.str _) (.cons (GA.sb MG kX) .nil))) (.cons (.int _) .nil))) .nil);exact b7 (ji _ _ ⟨_,_,Ja,xk.trans Dh.nil,jG.sb Dh,hg,.two n0m n0o Ff⟩)
  ·rw [show decide (V.int Dm=V.int 1)=false from Qz fun z=>w1 (V.int.inj z)];exact iteF (vV (ji _ _ ⟨iv,_,Ja,xk,jG,GA.sb hiv mF,.one Ff⟩))
 obtain ⟨Rn,gi,rfl,xk,jG,MI,I55⟩:=h;clear hiv vy s9;have dx:drawn.ok.nd=drawn.ok.nd:=rfl;clear dx;refine ⟨_,Ja,Z0,fun z1 BM=>?_⟩;have t1:=Jb BM (.tup []);have h1:=gA (K:=K) t1;have VH:=GA.sb MI t1;generalize upd mP z1 _=G1 at t1 h1 VH;refine ⟨dU,fun z2 BL=>?_⟩;have t2:=Jb BL (.tup [Rn,.ref z1]);have h2:=gA (K:=K) t2;have Gi:=GA.sb VH t2;have CJ:=t2.aH h1;have hY:=t1.trans t2;generalize upd G1 z2 _=G2 at t2 h2 Gi CJ hY;refine ⟨Z0,fun z3 LU=>?_⟩;have t3:=Jb LU (.tup []);have h3:=gA (K:=K) t3;have VG:=GA.sb Gi t3;have Jq:=t3.aH CJ;have WD:=t3.aH h2;have xa:=hY.trans t3;generalize upd G2 z3 _=G3 at t3 h3 VG Jq WD xa;refine ⟨_,Ja,dU,fun z4 UD=>?_⟩;have t4:=Jb UD (.tup [.ref z3,Rn]);have h4:=gA (K:=K) t4;have VF:=GA.sb VG t4;have WH:=t4.aH Jq;have WC:=t4.aH WD;have GX:=t4.aH h3;have kX:=xa.trans t4;generalize upd G3 z4 _=G4 at t4 h4 VF WH WC GX kX;refine ⟨dU,fun z5 IQ=>?_⟩;have z5p:z5 ≠ p:=((jG.sb kX).ne IQ).symm;have Bu:=Jb IQ (.lst [.ref z2,.ref z4]);have h5:=dZ Bu;have VE:=GA.sb VF Bu;have WG:=Bu.aH WH;have WB:=Bu.aH WC;have GV:=Bu.aH GX;have GU:=Bu.aH h4;have yI:=kX.trans Bu;have zH:=jG.sb yI;generalize upd G4 z5 _=G5 at Bu h5 VE WG WB GV GU yI zH;refine ⟨_,Ja,p,cl,2,Ja,zH,by decide,by decide,fun Ur G6 ycb yca uh F5=>?_⟩;have NI:GA K G6 (.ref z1) .nil:=C7 (uh.aH WG);have D7:GA K G6 (.ref z3) .nil:=C7 (uh.aH GV);have VD:=GA.sb VE uh;obtain ⟨zr,ru,ezr,Rw,R55⟩:∃ (zr:Addr) (ru:Ru),atI [V.ref z2,V.ref z4] Ur=some (.ref zr)/\Dp K G6 (.ref zr) (Ru.enc ru)/\(ru=(gi,.nil)\/ru=(.nil,gi)):=by
  rcases (by omega:Ur=0\/Ur=1) with rfl | rfl
  ·exact ⟨z2,(gi,.nil),Ja,Dp.tup (uh.aH WB) (.cons VD (.cons NI .nil)),.inl rfl⟩
  ·exact ⟨z4,(.nil,gi),Ja,Dp.tup (uh.aH GU) (.cons D7 (.cons VD .nil)),.inr rfl⟩
 refine ⟨z5,_,_,_,Ja,Ja,SqL.of (uh.keep _ _ h5 (by simpa using z5p)),ezr,?_⟩;refine b7 ?_;have E5:SB [p] H8 G6:=(xk.trans yI.nil).trans uh;clear h1 VH t1 h2 Gi CJ hY t2 h3 VG Jq WD xa t3 h4 VF WH WC GX kX t4 h5 VE WG WB GV GU yI zH Bu NI D7 VD MI uh;have DN:=MZ.sb E5 (by simpa using dp) (BN pQ);refine ⟨_,Ja,_,Ja,p,cl,2,Ja,F5,by decide,by decide,fun r17 HE _ _ QY Cd=>?_⟩;refine ⟨rfl,?_⟩;generalize decide (V.int r17=V.int 1)=wd;have zO:=DN.sb QY (by simpa using dp) (BN F5);refine ⟨d,b,wd,Ja,zO,by omega,fun L xs CZ xx nL hL MC=>?_⟩;obtain ⟨c,ec,MC⟩:∃ c:Bk,(c=b\/c=b.reverse)/\KdAll K CZ [L] xs c:=⟨_,by cases wd <;> simp,MC⟩;obtain ⟨same,A7,lv,M⟩:=drawn.made (Yc 5) ec;have cl5:c.length<=5:=by
  rcases ec with rfl | rfl
  ·exact b5
  ·rw [List.length_reverse]; exact b5
 have xl:=MC.length;have MB:=MC.less (bad':=[]) (by simp);have DG:=fc (QY.trans xx.nil) _ _ (Ru.af _) Rw;refine ⟨_,Ja,_,Ja,Z1,fun y1 UH=>?_⟩;have t1:=Jb UH (.lst [.ref zr]);have IY:=dZ t1;have Jm:=t1.keep _ _ hL aL;have Gg:=MB.sb t1 dR.nil;have FX:=fc t1 _ _ (Ru.af _) DG;generalize upd CZ y1 _=G1 at t1 IY Jm Gg FX;refine ⟨Z3,fun y2 UG=>?_⟩;have t2:=Jb UG (.tup [.str rg,.bl false,.ref y1]);have B5:=gA (K:=K) t2;have FI:=t2.keep _ _ IY aL;have Ny:=t2.keep _ _ Jm aL;have Gf:=Gg.sb t2 dR.nil;have FW:=fc t2 _ _ (Ru.af _) FX;have hY:=t1.trans t2;generalize upd G1 y2 _=G2 at t2 B5 FI Ny Gf FW hY;refine ⟨Z1,fun y3 UE=>?_⟩;have t3:=Jb UE (.lst [.ref y2]);have IX:=dZ t3;have FH:=t3.keep _ _ FI aL;have FG:=t3.aH B5;have Wm:=t3.keep _ _ Ny aL;have Ge:=Gf.sb t3 dR.nil;have FV:=fc t3 _ _ (Ru.af _) FW;have xa:=hY.trans t3;generalize upd G2 y3 _=G3 at t3 IX FH FG Wm Ge FV xa;refine ⟨L,y3,_,_,Ja,Ja,Wm,IX,by show xs.length+1<=sizeLine; omega,fun M9 nM9=>?_⟩;have t4:=Jb nM9 (.lst (xs++[.ref y2]));have Wk:=dZ t4;have Cj:KdAll K (upd G3 M9 (.lst (xs++[.ref y2]))) [] (xs++[.ref y2]) (c++[⟨rg,false,[ru]⟩]):=(Ge.sb t4 dR.nil).append (.cons ⟨y2,y1,[.ref zr],rfl,t4.aH FG,t4.keep _ _ FH aL,.cons (fc t4 _ _ (Ru.af _) FV) .nil,aL⟩ .nil);have kX:=xa.trans t4;generalize upd G3 M9 _=G4 at t4 Wk Cj kX;have rgn:rg ∉ c.names:=fun z=>rgm.2 ((A7 _).mp z);have RG:=In55.Fe M.ok (by omega) (fun n hn=>(A7 n).mpr hn) Ff rgn I55 R55;have Dg:SB [] HE G4:=xx.trans kX;refine nJ ?_;refine zbl (Q:=fun x H1=>gName 10 x _ H1 _) (bad:=[]) Wk Cj RG.ok fun bk H5 s5k nbk Nf=>?_;refine b7 ?_;have BD:=Dg.trans s5k;have rC:=zO.sb BD aL kE.nil;have jh:=Cd.sb BD;have QU:SB [p] H8 H5:=(E5.trans QY).trans BD.nil;clear MC hL MB DG t1 IY Jm Gg FX t2 B5 FI Ny Gf FW hY t3 IX FH FG Wm Ge FV xa t4 Wk Cj kX Dg BD s5k xx QY zO DN Cd F5 Rw;have mw:(⟨rg,false,[ru]⟩:Kd).n=rg:=rfl;generalize (⟨rg,false,[ru]⟩:Kd)=kd at RG Nf mw;have VL:=hg8.sb QU;have hN5:=QU.keep _ _ Wg (by simpa using Np);have Jl:=QU.keep _ _ Nn (by simpa using Up);clear hg8 Wg Nn MZ pQ QU E5 xk QW;have xV:Gr.Named c.names g:=fun x hx=>(A7 _).mpr (rG x hx);have go':g.Ok (2 ^ 119):=go.mono (by
  have h1:(gn:Int)*10 ^ 9<=8*10 ^ 9:=Int.mul_le_mul_of_nonneg_right (by omega) (by decide);have h2:(8:Int)*10 ^ 9+1<=2 ^ 119:=by decide
  omega)
 have GR:=M.grv go' xV (by omega) (by omega);have ow:=RG.own M.ok M.ends M.own;have zW:Gr.Named (Bk.names (c++[kd])) g:=fun x hx=>RG.sub _ (xV x hx);have Hl:∀ x ∈ g.within,EndK (c++[kd]) x.1.1:=fun x hx=>RG.ends M.ok (M.ends _ (xV x hx)) (xV x hx);have hR:∀ n ∈ Bk.names (c++[kd]),EndK (c++[kd]) n->Lad.R (cg c n)/\cg c n ≠ .nil:=fun n hn he=>by
  have hc:=(RG.W0 M.ok M.ends hn).mp he;exact M.R n hc (M.ends n hc)
 have z7:∀ ns,(∀ n ∈ Bk.names (c++[kd]),EndK (c++[kd]) n->n ∈ ns)->Gr.cW (c++[kd]) (cg c) ns g:=fun ns h=>Gr.cW.on RG.same (fun n _ hn=>RG.sub n hn) xV (GR.WQ ns fun n hn he=>h n (RG.sub n hn) (RG.ends M.ok he hn));have QZ:Gr.rk (c++[kd]) (cg c) g=Gr.rk c (cg c) g:=(Gr.iE RG.same xV).symm;have L6:LFitW (Gr.rk (c++[kd]) (cg c) g):=by rw [QZ]; exact GR.lfW
 have bd':=Gr.Bd.on RG.same xV GR.bd;have Xm:(Bk.names (c++[kd])).length<=60:=by rw [RG.names,Yf,Ye]; show c.length+1<=60; omega
 have Fh:∀ {H9:Hp} {u y:V} {t:Lad} {Q:VK} {E:XK},GA K H9 u g->hJ K ag H9 (.ref bk) (c++[kd])->LA K H9 y t->t.deep<=29->t.lt (Gr.rk c (cg c) g)=false->(∀ (T:Addr) (H':Hp),SB [] H9 H'->SqT K H' T [.str "reach",.int 1]->Q (.ref T) H')->AV K ag [.ref bk,u,y] H9 Q E:=fun {H9 u y t Q E} hg hb hy td tl q =>
  ⟨_,_,_,c++[kd],g,Bk.names (c++[kd]),rfl,hb,RG.ok,hg,by omega,by omega,zW,Xm,fun n hn=>absurd (by obtain ⟨x,hx,e⟩:=Qx hn.mem; exact e ▸ zW x hx) hn.out,fun _=>⟨fun n hn=>absurd (by obtain ⟨x,hx,e⟩:=Qx hn.mem; exact e ▸ Hl x hx) hn.out,fun _=>⟨cg c,t,_,_,_,ow,hR,⟨by omega,by omega,go'⟩,⟨z7,L6,bd'⟩,⟨hy,td,by rw [QZ]; exact tl⟩,q⟩⟩⟩
 -- the rank by the Fx
 refine ⟨_,Ja,fun e ne=>?_⟩;have t6:=Jb ne (.dK []);have Jg:=dZ t6;have de6:d ≠ e:=fun z=>by
  obtain ⟨us,h,_⟩:=rC;rw [z,ne] at h; cases h
 have vD:=rC.sb t6 aL kE.nil;have oN:=jh.sb t6;have pe:=jh.ne ne;have ce:=jh.nc ne;have VJ:=VL.sb t6;generalize upd H5 e _=H6' at t6 Jg vD oN VJ;have M6:Memo K H6' e (cg c) c.names []:=⟨⟨[],Jg,.nil⟩,List.nodup_nil,fun _ h=>nomatch h⟩;have BR:∀ g':Gr,Gr.Named c.names g'->∀ x ∈ g'.within,lv x.1.1 < 8:=fun g' hn x hx=>M.Fx.low _ (hn x hx);refine ⟨_,Ja,d,e,gv,c,cg c,c.names,[],lv,g,_,8,Ja,vD.l same,de6,M.Fx,M6,⟨VJ,go',GR.Ow,by omega,by omega⟩,BR _ xV,by omega,fun wv H7 ms7 s7 M7 _ hw7=>?_⟩;refine b7 ?_;have oM:=oN.keep s7 (by simpa using pe) (by simpa using ce);have IK:SB [] H5 H7:=((t6.nil (ps:=[e])).trans s7).drop ne;have hg7:=VL.sb IK;have Nd:=Nf.cH IK;have M0:=rC.sb IK aL kE.nil;have Nv:=IK.keep _ _ hN5 aL;have Nq:=IK.keep _ _ Jl aL;clear M6 M7 oN vD VJ t6 Jg s7 jh rC VL hN5 Jl Nf IK;refine ⟨_,Ja,_,Ja,p,cl,4,Ja,oM,by decide,by decide,fun r8 H8' r80 r84 s8 pQ=>?_⟩;obtain ⟨ln,eln⟩:∃ ln:Nat,r8=(ln:Int):=⟨r8.toNat,by omega⟩;subst eln;refine ⟨p,cl,ln,Ja,pQ,by omega,by omega,fun mv ml H9 s9 vy Vs mp md mo=>?_⟩;refine b7 ?_;have IL:=s8.trans s9;have B9:=hw7.sb IL;have Co:=hg7.sb IL;have rD:=Nd.Uy oM IL;have Ct:=M0.sb IL (by simpa using dp) (BN oM);have hN9:=IL.keep _ _ Nv (by simpa using Np);have RH:=IL.keep _ _ Nq (by simpa using Up);clear hw7 hg7 Nd M0 Nv Nq oM pQ s8 s9;have Li:=GR.deep;refine ⟨_,Ja,_,Ja,.ref bk,gv,c++[kd],cg c,g,Ja,rD,RG.ok,ow,Co,by omega,by omega,zW,Hl,z7,fun x mP mF hx=>?_⟩;rw [QZ] at hx;refine ⟨_,Ja,_,_,hx,B9.sb mF,Lad.aA (by omega),Lad.aA (by omega),_,Ja,?_⟩;rw [Lad.a5,Ya rfl];refine iteF ?_;have wm:(!PyData.eqv (.tuple [.str "reach",.int 1]) (.tuple [.str "reach",.int 1]))=false:=by decide +kernel
 have RW:Lad.R (Gr.rk c (cg c) g):=⟨_,hO _,GR.ok⟩;have Rm:Lad.R ml:=⟨_,by omega,mo⟩;have AZ:SB [] H9 mP:=mF;refine ⟨_,Ja,_,Ja,_,Ja,?_⟩;refine nJ ?_;show AV K ag [V.ref bk,gv,wv] _ _ _;refine Fh (Co.sb mF) (rD.cH mF) (B9.sb mF) (by omega) (Lad.lt_irrefl _) fun T1 vP uX pV=>?_;refine ⟨dU,fun z nz=>?_⟩;have hY:=Jb nz (.tup [.str "reach",.int 1]);refine ⟨.tuple [.str "reach",.int 1],.tuple [.str "reach",.int 1],.tup (hY.aH pV) (.cons (.str _) (.cons (.int _) .nil)),.tup (SqT.of Qt) (.cons (.str _) (.cons (.int _) .nil)),by decide +kernel,by decide +kernel,_,rfl,?_⟩;rw [wm];refine iteF (vV ?_);have sI:=(mF.trans uX).trans hY;generalize upd vP z _=Ey at hY sI;clear hY pV uX hx AZ mF
 -- the goals that are not less
 refine ⟨_,Ja,_,Ja,wv,mv,_,ml,Ja,B9.sb sI,Vs.sb sI,by omega,by omega,by have:=GR.parts; omega,by omega,fun y1 OW uW IY=>?_⟩;refine ⟨_,Ja,_,Ja,wv,mv,_,ml,Ja,(B9.sb sI).sb uW,(Vs.sb sI).sb uW,by omega,by omega,by have:=GR.parts; omega,by omega,fun y2 H14 T4 B5=>?_⟩;refine ⟨_,Ja,?_⟩;refine P8 (K:=K) fun uv OV E8 huv=>?_;have yW:=(uW.trans T4).trans E8;refine ⟨wv,uv,_,Lad.b9,Ja,(B9.sb sI).sb yW,huv,by omega,by decide,by have:=GR.parts; omega,by decide,fun y3 XJ uh IX=>?_⟩;refine ⟨Z3,fun L4 nL4=>?_⟩;have qx:=Jb nL4 (.lst [y1,y2,y3]);have CF:=dZ qx;have yV:=(yW.trans uh).trans qx;have g1:=IY.sb (((T4.trans E8).trans uh).trans qx);have g2:=B5.sb ((E8.trans uh).trans qx);have g3:=IX.sb qx;generalize upd XJ L4 _=HE at qx CF yV g1 g2 g3;have E4:=sI.trans yV;clear IY B5 IX qx uW T4 E8 uh yW yV sI huv;have mlw:ml.deep<=3:=by omega
 have goals:∀ (i:Nat) (y:V),[y1,y2,y3][i]?=some y->∃ t:Lad,LA K HE y t/\t.deep<=29/\t.lt (Gr.rk c (cg c) g)=false:=fun i y e=>by
  rcases i with _ | _ | _ | i
  ·cases e;exact ⟨_,g1,by have:=(Lad.sV (l:=Gr.rk c (cg c) g) (k:=ml)).2; omega,by rw [Lad.mJ RW Rm]; exact Lad.qP RW Rm⟩
  ·cases e;exact ⟨_,g2,Yb (Lad.eV (n:=26) Li (by omega)) (by decide),Lad.qQ RW Rm⟩
  ·cases e;exact ⟨_,g3,Yb (Lad.eV (n:=26) Li (by decide)) (by decide),Lad.qQ RW Lad.R.b9⟩
  ·cases e
 refine ⟨L4,Ja,⟨_,SqL.of CF⟩,?_⟩;refine for_it (walk_list (xs:=[y1,y2,y3])) (fun i σ CZ=>SB [] HE CZ/\∃ Dt Fm:Option V,σ=[some (.ref a),some (.ref p),some (.ref d),some (.ref D),some (.str rg),some (.ref U),some (.ref N),some gv,some Rn,some (.ref zr),some (.ref bk),some wv,some mv,Dt,Fm,none,none,none,none]) ⟨SB.refl,none,none,Ja⟩ (fun i σ CZ hi h=>h.1.fG aL (SqL.of CF)) (fun i x σ Hq CZ hi h yy=>?_) (fun σ CZ h=>?_)
 ·obtain ⟨xx,Dt,Fm,rfl⟩:=h;obtain ⟨rfl,ey⟩:=yy;obtain ⟨t,hy,td,tl⟩:=goals i x ey;have oW:=E4.trans xx;have Md:=hy.sb xx;refine ⟨_,Ja,x,t,Ja,Md,by omega,by omega,fun S9 m9 H19 E7 nS hS=>?_⟩;refine zl9 ?_;have CD:=SqL.of (K:=K) hS;have wh:=xx.trans E7;refine ⟨_,Ja,S9,_,_,_,Ja,Ja,CD,atI_nat (j:=0) rfl,_,_,Ja,Ja,_,Ja,?_⟩;by_cases w1:((t.parts:Nat):Int)<=60
  case neg =>
   rw [Qz w1];exact iteF (iteF (vV ⟨wh,_,_,Ja⟩))
  rw [Ya w1];refine iteT ⟨_,Ja,S9,_,_,_,Ja,Ja,CD,atI_nat (j:=1) rfl,_,_,Ja,Ja,_,Ja,?_⟩;by_cases w2:((t.deep:Nat):Int)<=12
  case neg =>
   rw [Qz w2];exact iteF (iteF (vV ⟨wh,_,_,Ja⟩))
  rw [Ya w2];refine iteT ⟨_,Ja,S9,_,_,_,Ja,Ja,CD,atI_nat (j:=2) rfl,_,_,Ja,Ja,⟨by decide,by decide,by decide⟩,_,_,Ja,Ja,_,Ja,?_⟩;by_cases w3:m9 < (10:Int) ^ (60:Int).toNat
  case neg =>
   rw [Qz w3];exact iteF (vV ⟨wh,_,_,Ja⟩)
  rw [Ya w3];refine iteT ?_;have Lr:=oW.trans E7;refine ⟨_,Ja,_,Ja,_,Ja,?_⟩;refine nJ ?_;show AV K ag [V.ref bk,gv,x] _ _ _;refine Fh (Co.sb Lr) (rD.cH Lr) (Md.sb E7) td tl fun T1 H20 s20 pV=>?_;refine ⟨dU,fun z nz=>?_⟩;have hY:=Jb nz (.tup [.str "reach",.int 1]);refine ⟨.tuple [.str "reach",.int 1],.tuple [.str "reach",.int 1],.tup (hY.aH pV) (.cons (.str _) (.cons (.int _) .nil)),.tup (SqT.of Qt) (.cons (.str _) (.cons (.int _) .nil)),by decide +kernel,by decide +kernel,_,rfl,?_⟩;rw [wm];exact iteF (vV ⟨(wh.trans s20).trans hY,_,_,Ja⟩)
 obtain ⟨xx,Dt,Fm,rfl⟩:=h;have oW:=E4.trans xx;have Me:=B9.sb oW;have Gn:=Co.sb oW;have DP:=rD.cH oW;have DM:=Ct.sb oW aL kE.nil;have Nw:=oW.keep _ _ hN9 aL;have GG:=oW.keep _ _ RH aL;have Cc:=vy.sb oW;clear B9 Co rD Ct hN9 RH vy oW xx E4 goals g1 g2 g3 CF Vs
 -- the groves of mL and of unknown kinds
 obtain ⟨ga,Jr,rfl,jR,zL⟩:=vX Gn;have gxl:=zL.length;have glp:=g.aM;refine ⟨_,Ja,ga,Jr,Ja,.inr jR,fun l1 Rg=>?_⟩;have q1:=Jb Rg (.lst Jr);have kP:=dZ q1;have Gk:=zL.sb q1 Gr.aj;have Wj:=q1.keep _ _ Nw aL;generalize upd CZ l1 _=Q1 at q1 kP Gk Wj;refine ⟨_,Ja,_,Ja,?_⟩;obtain ⟨ui,enl⟩:∃ ui,b.names[b.names.length-1]?=some ui:=⟨_,Kp (by omega)⟩;have nlm:=Qu enl;have nlo:=drawn.ok.names ui nlm;refine ⟨N,_,_,_,Ja,Ja,SqL.of Wj,zey (by rw [Ye,List.getElem?_map,enl]; rfl),?_⟩;refine Tc (K:=K) rfl fun rv Q2 q2 FU=>?_;refine ⟨dU,fun T1 UM=>?_⟩;have q3:=Jb UM (.tup [.str ui,rv]);have h3:=gA (K:=K) q3;have FR:=GA.sb FU q3;have Uw:=q2.trans q3;generalize upd Q2 T1 _=Q3 at q3 h3 FR Uw;refine ⟨dU,fun T2 BQ=>?_⟩;have q4:=Jb BQ (.tup [.ref T1,.int 1]);have h4:=gA (K:=K) q4;have GX:=q4.aH h3;have FQ:=GA.sb FR q4;have Uv:=Uw.trans q4;generalize upd Q3 T2 _=Q4 at q4 h4 GX FQ Uv;refine ⟨Z1,fun l2 Fs=>?_⟩;have q5:=Jb Fs (.lst [.ref T2]);have h5:=dZ q5;have GU:=q5.aH h4;have GV:=q5.aH GX;have FP:=GA.sb FQ q5;have LO:=Uv.trans q5;have VA:=LO.keep _ _ kP aL;have Gj:=Gk.sb LO Gr.aj;generalize upd Q4 l2 _=Q5 at q5 h5 GU GV FP LO VA Gj;refine ⟨l1,l2,_,_,Ja,Ja,VA,h5,by show Jr.length+1<=sizeLine; omega,fun l3 LW=>?_⟩;have q6:=Jb LW (.lst (Jr++[.ref T2]));have h6:=dZ q6;have yk:Bears K (upd Q5 l3 (.lst (Jr++[.ref T2]))) Gr.aC (Jr++[.ref T2]) (g.ps++[((ui,.cons rg .nil 1 .nil),1)]):=(Gj.sb q6 Gr.aj).append (.cons (Dp.tup (q6.aH GU) (.cons (Dp.tup (q6.aH GV) (.cons (.str _) (.cons (GA.sb FP q6) .nil))) (.cons (.int _) .nil))) .nil);have Ux:=(q1.trans LO).trans q6;generalize upd Q5 l3 _=Q6 at q6 h6 yk Ux;clear q2 q3 q4 q5 q6 Uw Uv LO h3 h4 h5 GX GU GV FU FR FQ FP kP VA Gk Gj Wj q1;have okp:∀ p ∈ g.ps,dN p.1.1/\p.1.2.Ok (2 ^ 119)/\1<=p.2:=fun p hp=>by
  obtain ⟨a1,a2,a3,_⟩:=(Gr.aV.mp go').1 p hp;exact ⟨a1,a2,a3⟩
 have LR:∀ p ∈ g.ps++[((ui,Gr.cons rg .nil 1 .nil),(1:Int))],dN p.1.1/\p.1.2.Ok (2 ^ 119)/\1<=p.2:=fun p hp=>by
  rcases Qw hp with e | e
  ·exact okp p e
  ·rw [Qy e];exact ⟨nlo,YR Ff (by decide) (by decide),Kw _⟩
 have Xh:∀ p ∈ g.ps++[((ui,Gr.cons rg .nil 1 .nil),(1:Int))],p.1.2.deep<=9:=fun p hp=>by
  rcases Qw hp with e | e
  ·have:=g.av p e; omega
  ·rw [Qy e]; exact Nat.le_of_ble_eq_true rfl
 have knE:∀ p ∈ g.ps++[((ui,Gr.cons rg .nil 1 .nil),(1:Int))],p.1.1 ∈ c.names++[rg]/\Gr.Named (c.names++[rg]) p.1.2:=fun p hp=>by
  rcases Qw hp with e | e
  ·obtain ⟨a1,a2⟩:=Gr.aJ.mp xV p e;exact ⟨gR _ a1,fun x hx=>gR _ (a2 x hx)⟩
  ·rw [Qy e];exact ⟨gR _ ((A7 _).mpr nlm),fun x hx=>by
    have hx:x ∈ [((rg,Gr.nil),(1:Int))]:=hx;rw [Qy hx]; exact jr _ (Kv rfl)⟩
 refine ⟨l3,_,_,Ja,.inl (SqL.of h6),yk,by rw [Yf]; show g.ps.length+1<=1000; omega,⟨2 ^ 119,fun p hp=>⟨(LR p hp).1,(LR p hp).2.1,by have:=Xh p hp; omega⟩⟩,fun ev Q7 q7 Cp=>?_⟩;refine b7 ?_;have bel:(g.ps++[((ui,Gr.cons rg .nil 1 .nil),(1:Int))]).length=g.ps.length+1:=by rw [Yf]; rfl
 have Ni:=Gr.lJ (fun p hp=>(LR p hp).2.2) (jr g.ps (Kv (rfl:((ui,Gr.cons rg .nil 1 .nil),(1:Int))=_)));have Nh:rg ∈ (Gr.tidy (g.ps++[((ui,Gr.cons rg .nil 1 .nil),(1:Int))])).within.map (·.1.1):=Ni.2 ((rg,.nil),1) (bw ..);have eD:(Gr.tidy (g.ps++[((ui,Gr.cons rg .nil 1 .nil),(1:Int))])).deep<=10:=Gr.iW fun p hp=>by have:=Xh p hp; omega
 have eP:(Gr.tidy (g.ps++[((ui,Gr.cons rg .nil 1 .nil),(1:Int))])).parts<=10:=Yb (Gr.gN _) (by rw [Gr.aT,Gr.jw]; show g.parts+(1+1+0)<=10; omega);have eN:Gr.Named (c.names++[rg]) (Gr.tidy (g.ps++[((ui,Gr.cons rg .nil 1 .nil),(1:Int))])):=Gr.lU knE;obtain ⟨F1,F1o⟩:∃ F1,(Gr.tidy (g.ps++[((ui,Gr.cons rg .nil 1 .nil),(1:Int))])).Ok F1:=⟨_,Gr.qv LR (Int.lt_of_lt_of_le (Int.lt_succ _) (Int.le_max_left _ (2 ^ 119))) (Int.le_max_right _ _)⟩;generalize Gr.tidy (g.ps++[((ui,Gr.cons rg .nil 1 .nil),(1:Int))])=ge at Cp Nh eD eP eN F1o;clear Ni knE Xh LR bel okp yk h6;have Rf:=Ux.trans q7;have oM:=Cc.sb Rf;have Nq:=Rf.keep _ _ GG aL;refine ⟨_,Ja,p,cl,2,Ja,oM,by decide,by decide,fun r8 Q8 r80 r82 q8 pQ=>?_⟩;refine b7 ?_;have Nn:=q8.keep _ _ Nq (by simpa using Up);have zM:=GA.sb Cp q8;obtain ⟨ea,Ju,rfl,MT,heb⟩:=vX zM;have exl:=heb.length;have elp:=ge.aM;obtain ⟨ub,uo,eub,euo,Mj⟩:∃ ub uo:Str,atI [V.str u0,V.str u1] r8=some (.str ub)/\atI [V.str u0,V.str u1] (1-r8)=some (.str uo)/\((ub=u0/\uo=u1)\/(ub=u1/\uo=u0)):=by
  rcases (by omega:r8=0\/r8=1) with rfl | rfl
  ·exact ⟨u0,u1,Ja,Ja,.inl ⟨rfl,Ja⟩⟩
  ·exact ⟨u1,u0,Ja,Ja,.inr ⟨rfl,Ja⟩⟩
 refine ⟨_,Ja,ea,Ju,Ja,.inr MT,fun l1 Rg=>?_⟩;have q1:=Jb Rg (.lst Ju);have kP:=dZ q1;have Gu:=heb.sb q1 Gr.aj;have RI:=q1.keep _ _ Nn aL;generalize upd Q8 l1 _=Q1' at q1 kP Gu RI;refine ⟨_,Ja,_,Ja,U,_,_,_,Ja,Ja,SqL.of RI,eub,?_⟩;refine ⟨Z0,fun z1 BM=>?_⟩;have w1:=Jb BM (.tup []);have vq:=gA (K:=K) w1;generalize upd Q1' z1 _=W1 at w1 vq;refine ⟨dU,fun z2 BL=>?_⟩;have w2:=Jb BL (.tup [.str ub,.ref z1]);have FD:=gA (K:=K) w2;have FF:=w2.aH vq;have Df:=w1.trans w2;generalize upd W1 z2 _=W2 at w2 FD FF Df;refine ⟨dU,fun z3 LU=>?_⟩;have w3:=Jb LU (.tup [.ref z2,.int 1]);have zE:=gA (K:=K) w3;have Vd:Dp K (upd W2 z3 (.tup [.ref z2,.int 1])) (.ref z3) (Gr.aC ((ub,.nil),1)):=.tup zE (.cons (.tup (w3.aH FD) (.cons (.str _) (.cons (C7 (w3.aH FF)) .nil))) (.cons (.int _) .nil));have QP:=Df.trans w3;have Wc:=QP.keep _ _ RI aL;generalize upd W2 z3 _=W3 at w3 zE Vd QP Wc;refine ⟨_,Ja,_,Ja,_,Ja,_,_,Ja,Ja,U,_,_,_,Ja,Ja,SqL.of Wc,euo,?_⟩;refine ⟨Z0,fun y1' UH=>?_⟩;have w4:=Jb UH (.tup []);have k1:=gA (K:=K) w4;generalize upd W3 y1' _=W4 at w4 k1;refine ⟨dU,fun y2' UG=>?_⟩;have w5:=Jb UG (.tup [.str uo,.ref y1']);have k2:=gA (K:=K) w5;have IV:=w5.aH k1;have Tz:=w4.trans w5;generalize upd W4 y2' _=W5 at w5 k2 IV Tz;refine ⟨dU,fun Tq UE=>?_⟩;have w6:=Jb UE (.tup [.ref y2',.int 1]);have k3:=gA (K:=K) w6;have UX:=w6.aH IV;have UW:=w6.aH k2;have Tx:=Tz.trans w6;generalize upd W5 Tq _=W6 at w6 k3 UX UW Tx;refine ⟨Z1,fun QN ny4=>?_⟩;have w7:=Jb ny4 (.tup [.ref Tq]);have k4:GA K (upd W6 QN (.tup [.ref Tq])) (.ref QN) (.cons uo .nil 1 .nil):=QE (bs:=[((uo,.nil),1)]) (SqT.of Qt) (.cons (Dp.tup (w7.aH k3) (.cons (Dp.tup (w7.aH UW) (.cons (.str _) (.cons (C7 (w7.aH UX)) .nil))) (.cons (.int _) .nil))) .nil);have Tw:=Tx.trans w7;generalize upd W6 QN _=W7 at w7 k4 Tw;refine ⟨dU,fun Tp ny5=>?_⟩;have w8:=Jb ny5 (.tup [.str rg,.ref QN]);have k5:=gA (K:=K) w8;have UU:=GA.sb k4 w8;have Tv:=Tw.trans w8;generalize upd W7 Tp _=W8 at w8 k5 UU Tv;refine ⟨dU,fun EU ny6=>?_⟩;have w9:=Jb ny6 (.tup [.ref Tp,.int 2]);have k6:Dp K (upd W8 EU (.tup [.ref Tp,.int 2])) (.ref EU) (Gr.aC ((rg,.cons uo .nil 1 .nil),2)):=.tup (SqT.of Qt) (.cons (.tup (w9.aH k5) (.cons (.str _) (.cons (GA.sb UU w9) .nil))) (.cons (.int _) .nil));have Tu:=Tv.trans w9;generalize upd W8 EU _=W9 at w9 k6 Tu;refine ⟨dU,fun l2 Fs=>?_⟩;have Ll:=Jb Fs (.lst [.ref z3,.ref EU]);have kO:=dZ Ll;have QO:=Tu.trans Ll;have Lj:=QP.trans QO;have dv:Bears K (upd W9 l2 (.lst [.ref z3,.ref EU])) Gr.aC [.ref z3,.ref EU] [((ub,.nil),1),((rg,.cons uo .nil 1 .nil),2)]:=.cons (fc QO _ _ (Gr.aj _) Vd) (.cons (fc Ll _ _ (Gr.aj _) k6) .nil);have Ga:=Lj.keep _ _ kP aL;have Gq:=Gu.sb Lj Gr.aj;generalize upd W9 l2 _=Wa at Ll kO QO Lj dv Ga Gq;refine ⟨l1,l2,_,_,Ja,Ja,Ga,kO,by show Ju.length+2<=sizeLine; omega,fun l3 LW=>?_⟩;have wb:=Jb LW (.lst (Ju++[.ref z3,.ref EU]));have vC:=dZ wb;have gT:=(Gq.append dv).sb wb Gr.aj;have Uu:=(q1.trans Lj).trans wb;generalize upd Wa l3 _=Wb9 at wb vC gT Uu;clear w1 w2 w3 Df QP w4 w5 Tz w6 Tx w7 Tw w8 Tv w9 Tu Ll QO Lj wb k1 k2 IV k3 UX UW k4 k5 UU k6 vq FD FF zE Vd RI Wc kP Gu Ga Gq dv kO q1;have u0m:=(S.mem u0).mp (Qu e0);have u1m:=(S.mem u1).mp (Qu e1);have QS:=Sl _ u0m.1;have u1o:=Sl _ u1m.1;have ubo:dN ub:=by rcases Mj with ⟨rfl,_⟩ | ⟨rfl,_⟩; exact QS; exact u1o
 have uoo:dN uo:=by rcases Mj with ⟨_,rfl⟩ | ⟨_,rfl⟩; exact u1o; exact QS
 have LQ:∀ p ∈ ge.ps++[((ub,Gr.nil),(1:Int)),((rg,Gr.cons uo .nil 1 .nil),(2:Int))],dN p.1.1/\p.1.2.Ok (max F1 2)/\1<=p.2:=fun p hp=>by
  rcases Qw hp with e | e
  ·obtain ⟨a1,a2,a3,_⟩:=(Gr.aV.mp F1o).1 p e;exact ⟨a1,a2.mono (Int.le_max_left _ _),a3⟩
  ·rcases Qv e with e | e
   ·rw [e]; exact ⟨ubo,trivial,Kw _⟩
   ·rw [Qy e];exact ⟨Ff,YR uoo (Kw _) (Int.lt_of_lt_of_le (by decide) (Int.le_max_right F1 2)),(by decide:(1:Int)<=2)⟩
 have Xg:∀ p ∈ ge.ps++[((ub,Gr.nil),(1:Int)),((rg,Gr.cons uo .nil 1 .nil),(2:Int))],p.1.2.deep<=10:=fun p hp=>by
  rcases Qw hp with e | e
  ·have:=ge.av p e; omega
  ·rcases Qv e with e | e
   ·rw [e]; exact Nat.zero_le _
   ·rw [Qy e]; exact Nat.le_of_ble_eq_true rfl
 have knF:∀ p ∈ ge.ps++[((ub,Gr.nil),(1:Int)),((rg,Gr.cons uo .nil 1 .nil),(2:Int))],p.1.1 ∈ c.names++[rg,u0,u1]/\Gr.Named (c.names++[rg,u0,u1]) p.1.2:=fun p hp=>by
  have up:∀ n,n ∈ c.names++[rg]->n ∈ c.names++[rg,u0,u1]:=fun n hn=>by
   rcases Qw hn with z | z
   ·exact gR _ z
   ·rw [Qy z]; exact jr _ (bw ..)
  have ubm:ub ∈ c.names++[rg,u0,u1]:=by rcases Mj with ⟨rfl,_⟩ | ⟨rfl,_⟩ <;> simp
  have uom:uo ∈ c.names++[rg,u0,u1]:=by rcases Mj with ⟨_,rfl⟩ | ⟨_,rfl⟩ <;> simp
  rcases Qw hp with e | e
  ·obtain ⟨a1,a2⟩:=Gr.aJ.mp eN p e;exact ⟨up _ a1,fun x hx=>up _ (a2 x hx)⟩
  ·rcases Qv e with e | e
   ·rw [e]; exact ⟨ubm,fun x hx=>nomatch hx⟩
   ·rw [Qy e];exact ⟨by simp,fun x hx=>by
     have hx:x ∈ [((uo,Gr.nil),(1:Int))]:=hx;rw [Qy hx]; exact uom⟩
 refine ⟨l3,_,_,Ja,.inl (SqL.of vC),gT,by rw [Yf]; show ge.ps.length+2<=1000; omega,⟨_,fun p hp=>⟨(LQ p hp).1,(LQ p hp).2.1,by have:=Xg p hp; omega⟩⟩,fun fv Q9 q9 hfv=>?_⟩;refine b7 ?_;have u0n:u0 ∉ c.names:=fun z=>u0m.2 ((A7 _).mp z);have u01:u0.cps.toList < u1.cps.toList:=by
  obtain ⟨h3,g3⟩:=Kq e0;obtain ⟨h4,g4⟩:=Kq e1;have:=List.pairwise_iff_getElem.mp S.srt 3 4 h3 h4 (by omega);rw [g3,g4] at this; exact this
 have u0r:u0 ≠ rg:=fun z=>by
  rw [<- z] at R3;have:=j8 S.nd R3 e0;omega
 have u0k:u0 ∉ Bk.names (c++[kd]):=fun z=>by
  rw [RG.names,mw] at z;rcases Qw z with z | z
  ·exact u0n z
  ·exact u0r (Qy z)
 have fD:(Gr.tidy (ge.ps++[((ub,Gr.nil),(1:Int)),((rg,Gr.cons uo .nil 1 .nil),(2:Int))])).deep<=11:=Gr.iW fun p hp=>by have:=Xg p hp; omega
 have fP:(Gr.tidy (ge.ps++[((ub,Gr.nil),(1:Int)),((rg,Gr.cons uo .nil 1 .nil),(2:Int))])).parts<=20:=Yb (Gr.gN _) (by rw [Gr.aT,Gr.jw]; show ge.parts+(1+0+(1+(1+0+0)+0))<=20; omega);have fN:Gr.Named (c.names++[rg,u0,u1]) (Gr.tidy (ge.ps++[((ub,Gr.nil),(1:Int)),((rg,Gr.cons uo .nil 1 .nil),(2:Int))])):=Gr.lU knF;have Nk:=Gr.lJ (p:=((ub,Gr.nil),(1:Int))) (fun p hp=>(LQ p hp).2.2) (jr ge.ps (bw ..));have Nj:=Gr.lJ (p:=((rg,Gr.cons uo .nil 1 .nil),(2:Int))) (fun p hp=>(LQ p hp).2.2) (jr ge.ps (bI _ (bw ..)));have GF:u0 ∈ (Gr.tidy (ge.ps++[((ub,Gr.nil),(1:Int)),((rg,Gr.cons uo .nil 1 .nil),(2:Int))])).within.map (·.1.1):=by
  rcases Mj with ⟨h1,_⟩ | ⟨_,h2⟩
  ·rw [<- h1]; exact Nk.1
  ·rw [<- h2]; exact Nj.2 ((uo,.nil),1) (bw ..)
 generalize Gr.tidy (ge.ps++[((ub,Gr.nil),(1:Int)),((rg,Gr.cons uo .nil 1 .nil),(2:Int))])=gf at hfv fD fP fN GF;clear Nk Nj knF Xg LQ gT vC;have eN':Gr.Named (Bk.names (c++[kd])) ge:=by rw [RG.names,mw]; exact eN
 have rgE:¬ EndK (c++[kd]) rg:=mw ▸ RG.mL;have Uj:∀ {H9:Hp} {y:V} {Q:VK} {E:XK},GA K H9 (.ref ea) ge->hJ K ag H9 (.ref bk) (c++[kd])->(∀ (T:Addr) (H':Hp),SB [] H9 H'->SqT K H' T [.str "endless",.str rg]->Q (.ref T) H')->AV K ag [.ref bk,.ref ea,y] H9 Q E:=fun {H9 y Q E} hg hb q =>
  ⟨_,_,_,c++[kd],ge,Bk.names (c++[kd]),rfl,hb,RG.ok,hg,by omega,by omega,eN',Xm,fun n hn=>absurd (by obtain ⟨x,hx,e⟩:=Qx hn.mem; exact e ▸ eN' x hx) hn.out,fun _=>⟨fun n hn=>by
   have e:n=rg:=by
    obtain ⟨x,hx,e⟩:=Qx hn.mem;have h:=eN x hx;rw [e] at h;rcases Qw h with z | z
    ·exact absurd (RG.ends M.ok (M.ends _ z) z) hn.out
    ·exact Qy z
   rw [e]; exact q,fun he=>absurd (by obtain ⟨x,hx,e⟩:=Qx Nh; exact e ▸ he x hx) rgE⟩⟩
 have Ui:∀ {H9:Hp} {y:V} {Q:VK} {E:XK},GA K H9 fv gf->hJ K ag H9 (.ref bk) (c++[kd])->(∀ (T:Addr) (H':Hp),SB [] H9 H'->SqT K H' T [.str "kind",.str u0]->Q (.ref T) H')->AV K ag [.ref bk,fv,y] H9 Q E:=fun {H9 y Q E} hg hb q =>
  ⟨_,_,_,c++[kd],gf,c.names++[rg,u0,u1],rfl,hb,RG.ok,hg,by omega,by omega,fN,by rw [Yf,Ye]; show c.length+3<=60; omega,fun n hn=>by
   have e:n=u0:=by
    obtain ⟨x,hx,e⟩:=Qx hn.mem;have h:=fN x hx;rw [e] at h;have ho:=hn.out;rw [RG.names,mw] at ho;rcases Qw h with z | z
    ·exact absurd (gR _ z) ho
    ·rcases Qv z with z | z
     ·exact absurd (jr _ (Kv z)) ho
     ·rcases Qv z with z | z
      ·exact z
      ·rw [Qy z] at hn;exact absurd u01 (hn.low u0 GF u0k)
   rw [e]; exact q,fun Je=>absurd (by obtain ⟨x,hx,e⟩:=Qx GF; exact e ▸ Je x hx) u0k⟩
 have q18:=(Rf.nil (ps:=[p])).trans q8;have Rc:=Uu.trans q9;have y9:SB [p] CZ Q9:=q18.trans Rc.nil;have Co:=Gn.sb y9;have B9:=Me.sb y9;have rD:=DP.Uy Cc y9;have Ct:=DM.sb y9 (by simpa using dp) (BN Cc);have RH:=y9.keep _ _ GG (by simpa using Up);have vy:=pQ.sb Rc;have VO:=GA.sb zM Rc;clear Gn Me DP DM GG Cc Nw pQ zM Cp oM Nq Nn Ux q7 Rf q8 Uu q9 q18 Rc jR zL;refine ⟨Z0,fun z1 BM=>?_⟩;have w1:=Jb BM (.tup []);generalize upd Q9 z1 _=W1 at w1;refine ⟨_,Ja,dU,fun L5 nL5=>?_⟩;have w2:=Jb nL5 (.lst [.ref z1,wv]);have lZ:=dZ w2;have Df:=w1.trans w2;generalize upd W1 L5 _=W2 at w2 lZ Df;clear w1 w2;refine ⟨L5,Ja,⟨_,SqL.of lZ⟩,?_⟩;refine for_it (walk_list (xs:=[.ref z1,wv])) (fun i σ X=>SB [] W2 X/\∃ Dt:Option V,σ=[some (.ref a),some (.ref p),some (.ref d),some (.ref D),some (.str rg),some (.ref U),some (.ref N),some (.ref ga),some Rn,some (.ref zr),some (.ref bk),some wv,some mv,Dt,Fm,some (.ref ea),some (.int r8),some fv,none]) ⟨SB.refl,Dt,Ja⟩ (fun i σ X hi h=>h.1.fG aL (SqL.of lZ)) (fun i x σ Xq X hi h yy=>?_) (fun σ X h=>?_)
 ·obtain ⟨sx,Dt,rfl⟩:=h;obtain ⟨rfl,ey⟩:=yy;have AZ:=Df.trans sx;refine ⟨_,Ja,_,Ja,_,Ja,?_⟩;refine nJ ?_;show AV K ag [V.ref bk,.ref ea,x] _ _ _;refine Uj (VO.sb AZ) (rD.cH AZ) fun T1 X1 sx1 pV=>?_;refine ⟨_,Ja,dU,fun z nz=>?_⟩;have t1:=Jb nz (.tup [.str "endless",.str rg]);refine ⟨.tuple [.str "endless",.str rg],.tuple [.str "endless",.str rg],.tup (t1.aH pV) (.cons (.str _) (.cons (.str _) .nil)),.tup (SqT.of Qt) (.cons (.str _) (.cons (.str _) .nil)),QM (by decide +kernel) Ff,QM (by decide +kernel) Ff,_,rfl,?_⟩;rw [Za];refine iteF ?_;have TH:=(sx.trans sx1).trans t1;generalize upd X1 z _=X2 at t1 TH;have E3:=Df.trans TH;refine ⟨_,Ja,_,Ja,_,Ja,?_⟩;refine nJ ?_;show AV K ag [V.ref bk,fv,x] _ _ _;refine Ui (hfv.sb E3) (rD.cH E3) fun T2 X3 sx3 ou=>?_;refine ⟨_,Ja,U,_,_,_,Ja,Ja,SqL.of ((E3.trans sx3).keep _ _ RH aL),atI_nat (j:=0) rfl,dU,fun z2 BL=>?_⟩;have t4:=Jb BL (.tup [.str "kind",.str u0]);refine ⟨.tuple [.str "kind",.str u0],.tuple [.str "kind",.str u0],.tup (t4.aH ou) (.cons (.str _) (.cons (.str _) .nil)),.tup (SqT.of Qt) (.cons (.str _) (.cons (.str _) .nil)),QM (by decide +kernel) QS,QM (by decide +kernel) QS,_,rfl,?_⟩;rw [Za];exact iteF (vV ⟨(TH.trans sx3).trans t4,_,Ja⟩)
 obtain ⟨sx,Dt,rfl⟩:=h;have AZ:=Df.trans sx;have hgX:=Co.sb AZ;have hwX:=B9.sb AZ;have V3:=rD.cH AZ;have VU:=Ct.sb AZ aL kE.nil;have hpX:=vy.sb AZ;refine ⟨_,Ja,Z0,fun z nz=>?_⟩;have t1:=Jb nz (.tup []);refine ⟨g.enc,.tuple [],hgX.sb t1,.tup (SqT.of Qt) .nil,Gr.aA go' (by omega),by decide +kernel,_,Ja,?_⟩;have hgY:=hgX.sb t1;have hwY:=hwX.sb t1;have Gz:=V3.cH t1;have MY:=VU.sb t1 aL kE.nil;have Rz:=hpX.sb t1;generalize upd X z _=Y at t1 hgY hwY Gz MY Rz;rw [Gr.oE];by_cases h0:g=.nil
 ·rw [Ya h0];refine iteT ⟨_,Ja,Z0,fun x1 nx1=>?_⟩;have w1:=Jb nx1 (.tup []);have k1:=gA (K:=K) w1;generalize upd Y x1 _=Y1 at w1 k1;refine ⟨Z0,fun x2 nx2=>?_⟩;have w2:=Jb nx2 (.tup []);have k2:=gA (K:=K) w2;have IV:=w2.aH k1;have Lk:=w1.trans w2;generalize upd Y1 x2 _=Y2 at w2 k2 IV Lk;refine nJ ?_;show AV K ag [V.ref bk,.ref x1,.ref x2] _ _ _;refine Fh (t:=.nil) (h0 ▸ C7 IV) (Gz.cH Lk) (uf k2) (Nat.zero_le _) (by rw [h0,Gr.lF]; exact Lad.lt_irrefl _) fun T1 Y3 xq pV=>?_;refine ⟨dU,fun z2 BL=>?_⟩;have t4:=Jb BL (.tup [.str "reach",.int 1]);refine ⟨.tuple [.str "reach",.int 1],.tuple [.str "reach",.int 1],.tup (t4.aH pV) (.cons (.str _) (.cons (.int _) .nil)),.tup (SqT.of Qt) (.cons (.str _) (.cons (.int _) .nil)),by decide +kernel,by decide +kernel,?_⟩;rw [show PyData.eqv (.tuple [.str "reach",.int 1]) (.tuple [.str "reach",.int 1])=true by decide +kernel];exact q _
 rw [Qz h0];refine iteF (vV ?_);have whn:=Gr.sP (b:=c) M.Fx.toGoods go' xV h0;have wpw:=(Gr.rk c (cg c) g).kU;have Jp:(10:Int) ^ 9 < 2 ^ 1900:=by decide +kernel
 have Bj:(2:Int) ^ 1900<=2 ^ 2000:=jm (by decide);refine ⟨_,Ja,_,Ja,p,cl,wv,_,2 ^ 1900,Ja,Rz,hwY,whn,Yb GR.deep (by decide),Yb wpw (Yb GR.parts (by decide)),⟨GR.ok,Jp,Bj⟩,fun gx t Z sZ hpZ RC td tp tok tlt=>?_⟩;refine b7 ?_;have hgZ:=hgY.sb sZ;have V2:=Gz.Uy Rz sZ;have VT:=MY.sb sZ (by simpa using dp) (BN Rz);have dB:(2:Int) ^ 1900+2 ^ 1900*(g.deep:Nat)<=2 ^ 1990:=by
  have h1:(2:Int) ^ 1900*(g.deep:Nat)<=2 ^ 1900*8:=Int.mul_le_mul_of_nonneg_left (by omega) (by decide +kernel);have h2:(2:Int) ^ 1900*9<=2 ^ 1990:=by decide +kernel
  omega
 have pt:t.parts+4000*g.deep<=900000:=by omega
 have one:(1:Int)<=2 ^ 1900:=hO 1900;refine ⟨_,Ja,_,Ja,?_⟩;refine ⟨_,Ja,_,Ja,_,Ja,.ref bk,.ref ga,gx,c++[kd],g,Bk.names (c++[kd]),Ja,V2,RG.ok,hgZ,by omega,by omega,zW,Xm,fun n hn=>absurd (by obtain ⟨x,hx,e⟩:=Qx hn.mem; exact e ▸ zW x hx) hn.out,fun _=>⟨fun n hn=>absurd (by obtain ⟨x,hx,e⟩:=Qx hn.mem; exact e ▸ Hl x hx) hn.out,fun _=>⟨cg c,t,2 ^ 1900,2 ^ 119,2 ^ 1900,4000,ow,hR,⟨by omega,by omega,go'⟩,⟨z7,L6,bd'⟩,⟨RC,by omega,fun _=>⟨tok,one,one,pt,dB⟩⟩,fun _ pp Z2 pl ii r n TR VN Vh hn=>?_,fun z=>(by rw [QZ,tlt] at z; cases z)⟩⟩⟩;have nB:n < 2 ^ 2000:=by
  have:=jm (show 1990<=1999 by decide);have h3:=yd 1999;have h4:=hO 1999;omega
 have Mp:Gr.Reach c (cg c) g t pl ii r n:=Gr.Reach.on RG.same.symm xV (fun k hk qT e r' Vj=>by
  rw [<- RG.same k hk] at e;exact (Gr.iC M.Fx.toGoods hk e Vj).2) Vh
 obtain ⟨m0,k,BW,hb,eg,er,_⟩:=id Mp;refine ⟨_,Ja,d,pp,.ref ga,gx,c,cg c,c.names,lv,g,t,pl,ii,r,n,2 ^ 119,Ja,(VT.sb TR aL kE.nil).l same,M.ok,M.Fx,⟨hgZ.sb TR,go',hO 119,jm (by decide),xV,by omega,by omega⟩,⟨LA.sb RC TR,by omega⟩,VN,Mp,nB,⟨M.WU go' xV (by omega) (by omega) hb eg (Qu er) m0 nB,GR.Ow,GR.lfL⟩,fun OW uW=>?_⟩;exact q _
end
structure Kt (P:Program) (w:World) (K:Qn) (mg:Str->Option Value) (base:Heap) (x:Str) (a:List Str) (st:Stmt) (f:Addr) (fd:FuncData):Prop where
 F:Fun K x x st f fd
 b:Binds K fd a []
 m:mg x=some (.ref f)
section
variable {P:Program} {w:World} {K:Qn} {mg:Str->Option Value} {base:Heap} {x:Str} {a:List Str} {st:Stmt} {f:Addr} {fd:FuncData} {l:Nat} {sp:Sp}
theorem Kt.g (k:Kt P w K mg base x a st f fd) (h:Fun K x x st f fd->FnOk P w K mg base CX0 l f fd a sp):Got P w K mg base x a l sp:=⟨_,_,h k.F,k.F.kp,k.b,k.m⟩
theorem Kt.y (k:Kt P w K mg base x a st f fd) (h:Fun K x x st f fd->FnOk P w K mg base (L2.CX P w) l f fd a sp):GotX P w K mg base x a l sp:=⟨_,_,h k.F,k.F.kp,k.b,k.m⟩
theorem kt (P:Program) (w:World) (K:Qn) (mg:Str->Option Value) (base:Heap) {h:Heap} (X:K.In h) (G:h.Ns mainGlobals mg) (c:He.SaysD fa fn K) (i j:Nat) {x:Str} {st:Stmt} {a:List Str} (h1:fn[i]?=some ⟨(x,none),x,x,defArgs st,defBody st,defScope st,[],[]⟩) (h2:fa[j]?=some (.glo x)) (h3:∀ (kV doc pm:Value) (an:Option Addr) (vL ct:Value) (us:List Value),us.length=a.length->bindArgs (PySem.W.fnOf x x (defArgs st) (defBody st) (defScope st) .none kV doc pm an vL ct) ⟨us,[]⟩=pure (a.zip us)):∃ f fd,Kt P w K mg base x a st f fd:=by
 obtain ⟨fd,D⟩:=c.def_ i h1;have F:Fun K x x st _ fd:=He5.fun_of D;exact ⟨_,fd,F,F.binds h3,He.glo_ok X G (c.fact j h2)⟩
theorem kt1 (P:Program) (w:World) (K:Qn) (mg:Str->Option Value) (base:Heap) {h:Heap} (X:K.In h) (G:h.Ns mainGlobals mg) (c:He.SaysD fa fn K) (i:Nat) {x:Str} {st:Stmt} (a:List Str) (h1:fn[i]?=some ⟨(x,none),x,x,defArgs st,defBody st,defScope st,[],[]⟩:=by exact rfl) (h2:fa[i]?=some (.glo x):=by exact rfl) (hl:a.length=1:=by exact rfl) (h3:∀ (kV doc pm:Value) (an:Option Addr) (vL ct u0:Value),bindArgs (PySem.W.fnOf x x (defArgs st) (defBody st) (defScope st) .none kV doc pm an vL ct) ⟨[u0],[]⟩=pure (a.zip [u0]):=by exact fun _ _ _ _ _ _ _=>rfl):∃ f fd,Kt P w K mg base x a st f fd :=
 kt P w K mg base X G c i i h1 h2 fun k d p n v t us z=>match us,(show us.length=1 from z.trans hl) with | [u0],_=>h3 k d p n v t u0
theorem kt2 (P:Program) (w:World) (K:Qn) (mg:Str->Option Value) (base:Heap) {h:Heap} (X:K.In h) (G:h.Ns mainGlobals mg) (c:He.SaysD fa fn K) (i:Nat) {x:Str} {st:Stmt} (a:List Str) (h1:fn[i]?=some ⟨(x,none),x,x,defArgs st,defBody st,defScope st,[],[]⟩:=by exact rfl) (h2:fa[i]?=some (.glo x):=by exact rfl) (hl:a.length=2:=by exact rfl) (h3:∀ (kV doc pm:Value) (an:Option Addr) (vL ct u0 u1:Value),bindArgs (PySem.W.fnOf x x (defArgs st) (defBody st) (defScope st) .none kV doc pm an vL ct) ⟨[u0,u1],[]⟩=pure (a.zip [u0,u1]):=by exact fun _ _ _ _ _ _ _ _=>rfl):∃ f fd,Kt P w K mg base x a st f fd :=
 kt P w K mg base X G c i i h1 h2 fun k d p n v t us z=>match us,(show us.length=2 from z.trans hl) with | [u0,u1],_=>h3 k d p n v t u0 u1
theorem kt3 (P:Program) (w:World) (K:Qn) (mg:Str->Option Value) (base:Heap) {h:Heap} (X:K.In h) (G:h.Ns mainGlobals mg) (c:He.SaysD fa fn K) (i:Nat) {x:Str} {st:Stmt} (a:List Str) (h1:fn[i]?=some ⟨(x,none),x,x,defArgs st,defBody st,defScope st,[],[]⟩:=by exact rfl) (h2:fa[i]?=some (.glo x):=by exact rfl) (hl:a.length=3:=by exact rfl) (h3:∀ (kV doc pm:Value) (an:Option Addr) (vL ct u0 u1 u2:Value),bindArgs (PySem.W.fnOf x x (defArgs st) (defBody st) (defScope st) .none kV doc pm an vL ct) ⟨[u0,u1,u2],[]⟩=pure (a.zip [u0,u1,u2]):=by exact fun _ _ _ _ _ _ _ _ _=>rfl):∃ f fd,Kt P w K mg base x a st f fd :=
 kt P w K mg base X G c i i h1 h2 fun k d p n v t us z=>match us,(show us.length=3 from z.trans hl) with | [u0,u1,u2],_=>h3 k d p n v t u0 u1 u2
theorem kt4 (P:Program) (w:World) (K:Qn) (mg:Str->Option Value) (base:Heap) {h:Heap} (X:K.In h) (G:h.Ns mainGlobals mg) (c:He.SaysD fa fn K) (i:Nat) {x:Str} {st:Stmt} (a:List Str) (h1:fn[i]?=some ⟨(x,none),x,x,defArgs st,defBody st,defScope st,[],[]⟩:=by exact rfl) (h2:fa[i]?=some (.glo x):=by exact rfl) (hl:a.length=4:=by exact rfl) (h3:∀ (kV doc pm:Value) (an:Option Addr) (vL ct u0 u1 u2 u3:Value),bindArgs (PySem.W.fnOf x x (defArgs st) (defBody st) (defScope st) .none kV doc pm an vL ct) ⟨[u0,u1,u2,u3],[]⟩=pure (a.zip [u0,u1,u2,u3]):=by exact fun _ _ _ _ _ _ _ _ _ _=>rfl):∃ f fd,Kt P w K mg base x a st f fd :=
 kt P w K mg base X G c i i h1 h2 fun k d p n v t us z=>match us,(show us.length=4 from z.trans hl) with | [u0,u1,u2,u3],_=>h3 k d p n v t u0 u1 u2 u3
theorem kt5 (P:Program) (w:World) (K:Qn) (mg:Str->Option Value) (base:Heap) {h:Heap} (X:K.In h) (G:h.Ns mainGlobals mg) (c:He.SaysD fa fn K) (i:Nat) {x:Str} {st:Stmt} (a:List Str) (h1:fn[i]?=some ⟨(x,none),x,x,defArgs st,defBody st,defScope st,[],[]⟩:=by exact rfl) (h2:fa[i]?=some (.glo x):=by exact rfl) (hl:a.length=5:=by exact rfl) (h3:∀ (kV doc pm:Value) (an:Option Addr) (vL ct u0 u1 u2 u3 u4:Value),bindArgs (PySem.W.fnOf x x (defArgs st) (defBody st) (defScope st) .none kV doc pm an vL ct) ⟨[u0,u1,u2,u3,u4],[]⟩=pure (a.zip [u0,u1,u2,u3,u4]):=by exact fun _ _ _ _ _ _ _ _ _ _ _=>rfl):∃ f fd,Kt P w K mg base x a st f fd :=
 kt P w K mg base X G c i i h1 h2 fun k d p n v t us z=>match us,(show us.length=5 from z.trans hl) with | [u0,u1,u2,u3,u4],_=>h3 k d p n v t u0 u1 u2 u3 u4
end
theorem facts {w:World} {K:Qn} (X:K.In h) (G:h.Ns mainGlobals mg) (VN:mg ("law":Str)=some (.ref f)) (c:He.SaysD fa fn K) (cx:CN K=true) :
  ∃ fd:FuncData,(∀ (s:Shared) (v:Value),BindsTo s fd ⟨[v],[]⟩ [(bH,v)])/\∀ base:Heap,K.In base->base.Ns mainGlobals mg->FnOk P w K mg base CX0 230 f fd [bH] (spLaw K):=by
 obtain ⟨z8,ED⟩:=c.def_ 73 (d:=Yq) rfl;have Pq:Fun K "law" "law" EI _ z8:=He5.fun_of ED;have LZ:=He.glo_ok X G (c.fact 73 (f:=.glo "law") rfl);obtain ⟨Ox,XQ⟩:=c.def_ 74 (d:=OJ) rfl;have Pr:Fun K "__init__" "NoKind.__init__" xc _ Ox:=He5.fun_of XQ;have Xp:=Pr.binds (ps:=[bf,"kind"]) fun _ _ _ _ _ _ us hl=>match us,hl with | [_,_],_=>rfl
 obtain ⟨Oy,XR⟩:=c.def_ 75 (d:=OK) rfl;have Pt:Fun K "__init__" "Endless.__init__" xf _ Oy:=He5.fun_of XR;have Xr:=Pt.binds (ps:=[bf,"kind"]) fun _ _ _ _ _ _ us hl=>match us,hl with | [_,_],_=>rfl
 obtain ⟨OC,XW⟩:=c.def_ 76 (d:=OO) rfl;have Py:Fun K "__init__" "Book.__init__" sH _ OC:=He5.fun_of XW;have Xv:=Py.binds (ps:=[bf,"kinds"]) fun _ _ _ _ _ _ us hl=>match us,hl with | [_,_],_=>rfl
 obtain ⟨OB,XU⟩:=c.def_ 77 (d:=ON) rfl;have Px:Fun K eS "Book.names" xi _ OB:=He5.fun_of XU;have Xu:=Px.binds (ps:=[bf]) fun _ _ _ _ _ _ us hl=>match us,hl with | [_],_=>rfl
 obtain ⟨Oz,XS⟩:=c.def_ 78 (d:=OL) rfl;have Pu:Fun K "spreads" "Book.spreads" xg _ Oz:=He5.fun_of XS;have Xs:=Pu.binds (ps:=[bf,aN]) fun _ _ _ _ _ _ us hl=>match us,hl with | [_,_],_=>rfl
 obtain ⟨OA,XT⟩:=c.def_ 79 (d:=OM) rfl;have Pw:Fun K "rules" "Book.rules" xh _ OA:=He5.fun_of XT;have Xt:=Pw.binds (ps:=[bf,aN]) fun _ _ _ _ _ _ us hl=>match us,hl with | [_,_],_=>rfl
 have B:BI mg:=⟨He.free_ok X G (c.fact 74 (f:=.free "len") rfl),He.free_ok X G (c.fact 75 (f:=.free "isinstance") rfl),He.free_ok X G (c.fact 76 (f:=.free "int") rfl),He.free_ok X G (c.fact 77 (f:=.free "bool") rfl),He.free_ok X G (c.fact 78 (f:=.free "str") rfl),He.free_ok X G (c.fact 79 (f:=.free "tuple") rfl),He.free_ok X G (c.fact 80 (f:=.free "list") rfl),He.free_ok X G (c.fact 81 (f:=.free "all") rfl),He.free_ok X G (c.fact 82 (f:=.free "zip") rfl),He.free_ok X G (c.fact 83 (f:=.free "sum") rfl),He.free_ok X G (c.fact 84 (f:=.free "max") rfl),He.free_ok X G (c.fact 85 (f:=.free "range") rfl),He.free_ok X G (c.fact 86 (f:=.free "enumerate") rfl),He.free_ok X G (c.fact 87 (f:=.free "abs") rfl),He.free_ok X G (c.fact 88 (f:=.free "sorted") rfl),He.free_ok X G (c.fact 89 (f:=.free "min") rfl),He.free_ok X G (c.fact 90 (f:=.free "reversed") rfl),He.free_ok X G (c.fact 91 (f:=.free "any") rfl),He.free_ok X G (c.fact 92 (f:=.free "set") rfl),He.free_ok X G (c.fact 93 (f:=.free "dict") rfl),He.free_ok X G (c.fact 94 (f:=.free "repr") rfl)⟩;obtain ⟨wW,cx⟩:=He.ba cx;obtain ⟨uE,cx⟩:=He.ba cx;obtain ⟨qj,cx⟩:=He.ba cx;have iO:=zee qj;have T:ErrsM K mg (He.ga K) eC eN eK:=zes cx (fun n hn=>by
   rcases Qv hn with e | hn
   ·rw [e]; exact He.glo_ok X G (c.fact 97 (f:=.glo "NoLadder") rfl)
   rcases Qv hn with e | hn
   ·rw [e]; exact He.glo_ok X G (c.fact 98 (f:=.glo "NoRest") rfl)
   rcases Qv hn with e | hn
   ·rw [e]; exact He.glo_ok X G (c.fact 99 (f:=.glo "NoGrove") rfl)
   rcases Qv hn with e | hn
   ·rw [e]; exact He.glo_ok X G (c.fact 100 (f:=.glo "NoPlace") rfl)
   rcases Qv hn with e | hn
   ·rw [e]; exact He.glo_ok X G (c.fact 101 (f:=.glo "NoBook") rfl)
   rcases Qv hn with e | hn
   ·rw [e]; exact He.glo_ok X G (c.fact 102 (f:=.glo "NoKind") rfl)
   rcases Qv hn with e | hn
   ·rw [e]; exact He.glo_ok X G (c.fact 103 (f:=.glo "NoRule") rfl)
   rcases Qv hn with e | hn
   ·rw [e]; exact He.glo_ok X G (c.fact 104 (f:=.glo "NoNumber") rfl)
   rcases Qv hn with e | hn
   ·rw [e]; exact He.glo_ok X G (c.fact 105 (f:=.glo "TooGreat") rfl)
   rcases Qv hn with e | hn
   ·rw [e]; exact He.glo_ok X G (c.fact 106 (f:=.glo "NoRise") rfl)
   rcases Qv hn with e | hn
   ·rw [e]; exact He.glo_ok X G (c.fact 107 (f:=.glo "NoFall") rfl)
   rcases Qv hn with e | hn
   ·rw [e]; exact He.glo_ok X G (c.fact 108 (f:=.glo "Endless") rfl)
   rcases Qv hn with e | hn
   ·rw [e]; exact He.glo_ok X G (c.fact 109 (f:=.glo "NotEndless") rfl)
   rcases Qv hn with e | hn
   ·rw [e]; exact He.glo_ok X G (c.fact 110 (f:=.glo "NoWorths") rfl)
   rcases Qv hn with e | hn
   ·rw [e]; exact He.glo_ok X G (c.fact 111 (f:=.glo "NoDrop") rfl)
   rcases Qv hn with e | hn
   ·rw [e]; exact He.glo_ok X G (c.fact 112 (f:=.glo "NoReach") rfl)
   rcases Qv hn with e | hn
   ·rw [e]; exact He.glo_ok X G (c.fact 113 (f:=.glo "TooLong") rfl)
   rcases Qv hn with e | hn
   ·rw [e]; exact He.glo_ok X G (c.fact 114 (f:=.glo "NoRow") rfl)
   rcases Qv hn with e | hn
   ·rw [e]; exact He.glo_ok X G (c.fact 115 (f:=.glo "NoName") rfl)
   exact nomatch hn) (He.glo_ok X G (c.fact 95 (f:=.glo "FellError") rfl)) (He.free_ok X G (c.fact 96 (f:=.free "ValueError") rfl)) (fun n hn=>by
   rcases Qv hn with e | hn
   ·rw [e]; exact He.noat_ok (c.fact 116 (f:=.noat "NoKind" "kind") rfl)
   rcases Qv hn with e | hn
   ·rw [e]; exact He.noat_ok (c.fact 117 (f:=.noat "Endless" "kind") rfl)
   exact nomatch hn)
 have x9:=He.str_ok X G (c.fact 118 (f:=.str "LETTERS" "abcdefghijklmnopqrstuvwxyz") rfl);have oI:=He.int_ok X G (c.fact 119 (f:=.int "LONGEST_NAME" (8)) rfl);have gZ:=He.int_ok X G (c.fact 120 (f:=.int "MOST_KINDS" (8)) rfl);have gY:=He.int_ok X G (c.fact 121 (f:=.int "MOST_RULES" (4)) rfl);have ef:=He.int_ok X G (c.fact 122 (f:=.int "MOST_RULE_PARTS" (4)) rfl);have iS:=He.int_ok X G (c.fact 123 (f:=.int "MOST_MANY" (1000000000)) rfl);have iP:=He.glo_ok X G (c.fact 124 (f:=.glo "NO_GROVES") rfl);have fK:Own K mg "NoBook" (He.ga K "NoBook"):=by
  obtain ⟨y1,y2,y3,y4⟩:=He.exc_ok (c.fact 125 (f:=.exc "NoBook") rfl);exact ⟨He.glo_ok X G (c.fact 101 (f:=.glo "NoBook") rfl),y1,y2,y3,y4⟩
 have x5:Own K mg "NoPlace" (He.ga K "NoPlace"):=by
  obtain ⟨y1,y2,y3,y4⟩:=He.exc_ok (c.fact 126 (f:=.exc "NoPlace") rfl);exact ⟨He.glo_ok X G (c.fact 100 (f:=.glo "NoPlace") rfl),y1,y2,y3,y4⟩
 have eR:Own K mg "NoReach" (He.ga K "NoReach"):=by
  obtain ⟨y1,y2,y3,y4⟩:=He.exc_ok (c.fact 127 (f:=.exc "NoReach") rfl);exact ⟨He.glo_ok X G (c.fact 112 (f:=.glo "NoReach") rfl),y1,y2,y3,y4⟩
 have As:Own K mg "NoRest" (He.ga K "NoRest"):=by
  obtain ⟨y1,y2,y3,y4⟩:=He.exc_ok (c.fact 128 (f:=.exc "NoRest") rfl);exact ⟨He.glo_ok X G (c.fact 98 (f:=.glo "NoRest") rfl),y1,y2,y3,y4⟩
 have zm:=He.glo_ok X G (c.fact 102 (f:=.glo "NoKind") rfl);have tH:=He.meth_ok (c.fact 129 (f:=.meth "NoKind" "__init__") rfl);have zi:=He.noat_ok (c.fact 116 (f:=.noat "NoKind" "kind") rfl);have xD:=He.glo_ok X G (c.fact 108 (f:=.glo "Endless") rfl);have pU:=He.meth_ok (c.fact 130 (f:=.meth "Endless" "__init__") rfl);have xB:=He.noat_ok (c.fact 117 (f:=.noat "Endless" "kind") rfl);have Ft:=He.glo_ok X G (c.fact 131 (f:=.glo "Book") rfl);have rH:=He.cls_ok (c.fact 132 (f:=.cls "Book") rfl);have cU:ClsF K (He.ga K "Book") ["spread_by_name","rows_by_name"]:=⟨rH,fun f hf=>by
   rcases Qv hf with e | hf
   ·rw [e]; exact He.noat_ok (c.fact 133 (f:=.noat "Book" "spread_by_name") rfl)
   rcases Qv hf with e | hf
   ·rw [e]; exact He.noat_ok (c.fact 134 (f:=.noat "Book" "rows_by_name") rfl)
   exact nomatch hf⟩
 have V9:=He.mkr_ok (c.fact 135 (f:=.mkr "Book") rfl);have V8:=He.meth_ok (c.fact 136 (f:=.meth "Book" eS) rfl);have V6:=He.meth_ok (c.fact 137 (f:=.meth "Book" "spreads") rfl);have V7:=He.meth_ok (c.fact 138 (f:=.meth "Book" "rules") rfl);have e:=VN.symm.trans LZ;cases e;have b:=FunD.bindsA (ps:=[bH]) ED fun _ _ _ _ _ _ us hl=>match us,hl with | [_],_=>rfl
 refine ⟨z8,fun s v=>b s [v] rfl,fun base _ _=>?_⟩;have k1:=@kt1 P w K mg base _ X G c;have k2:=@kt2 P w K mg base _ X G c;have k3:=@kt3 P w K mg base _ X G c;have k4:=@kt4 P w K mg base _ X G c;have k5:=@kt5 P w K mg base _ X G c;obtain ⟨_,_,vn⟩:=k1 0 [aD];obtain ⟨_,_,xK⟩:=k1 1 [aD];obtain ⟨_,_,xJ⟩:=k1 2 [aD];obtain ⟨_,_,tf⟩:=k1 3 [cO];obtain ⟨_,_,zC⟩:=k1 4 [gK];obtain ⟨_,_,xG⟩:=k2 5 [gK,aD];obtain ⟨_,_,zx⟩:=k3 6 ["text",wQ,"signs"];obtain ⟨_,_,pO⟩:=k1 7 [aD];obtain ⟨_,_,n4⟩:=k1 8 [aD];obtain ⟨_,_,fO⟩:=k1 9 [cO];obtain ⟨_,_,iJ⟩:=k1 10 [ao];obtain ⟨_,_,nY⟩:=k1 11 [ao];obtain ⟨_,_,jg⟩:=k2 12 [ah,aN];obtain ⟨_,_,qV⟩:=k2 13 [ah,aN];obtain ⟨_,_,ph⟩:=k2 14 [ah,ao];obtain ⟨_,_,ti⟩:=k1 15 [cO];obtain ⟨_,_,xN⟩:=k1 16 [aD];obtain ⟨_,_,xI⟩:=k1 17 [aD];obtain ⟨_,_,qU⟩:=k2 18 [cP,eS];obtain ⟨_,_,xE⟩:=k2 19 [ao,jT];obtain ⟨_,_,kg⟩:=k1 20 [ao];obtain ⟨_,_,vk⟩:=k2 21 [ah,aN];obtain ⟨_,_,vm⟩:=k4 22 [aN,cP,"word",ao];obtain ⟨_,_,BY⟩:=k2 23 [ah,aN];obtain ⟨_,_,n9⟩:=k1 24 [ah];obtain ⟨_,_,tc⟩:=k2 25 ["led",oT];obtain ⟨_,_,mq⟩:=k1 26 [ah];obtain ⟨_,_,qW⟩:=k2 27 [ah,ao];obtain ⟨_,_,zy⟩:=k1 28 [bO];obtain ⟨_,_,xM⟩:=k2 29 [bq,aF];obtain ⟨_,_,pj⟩:=k2 30 [bq,aF];obtain ⟨_,_,zD⟩:=k2 31 [bq,aF];obtain ⟨_,_,FC⟩:=k2 32 [bq,aF];obtain ⟨_,_,oa⟩:=k1 33 [R6];obtain ⟨_,_,xF⟩:=k2 34 [aR,bO];obtain ⟨_,_,Fz⟩:=k2 35 [bq,aF];obtain ⟨_,_,BX⟩:=k1 36 [aR];obtain ⟨_,_,B2⟩:=k2 37 [bq,aF];obtain ⟨_,_,zw⟩:=k2 38 [bq,aF];obtain ⟨_,_,FA⟩:=k2 39 [ah,ao];obtain ⟨_,_,sY⟩:=k1 40 [ah];obtain ⟨_,_,B1⟩:=k3 41 [ah,bt,cP];obtain ⟨_,_,nX⟩:=k3 42 [ah,bt,ao];obtain ⟨_,_,g7⟩:=k3 43 [ah,bt,cN];obtain ⟨_,_,BZ⟩:=k4 44 [ah,"kind","own","inner"];obtain ⟨_,_,xO⟩:=k3 45 [ah,ao,aR];obtain ⟨_,_,g8⟩:=k4 46 [ah,eG,ao,bP];obtain ⟨_,_,pf⟩:=k3 47 [PH,aR,bP];obtain ⟨_,_,xH⟩:=k1 48 [aR];obtain ⟨_,_,lK⟩:=k2 49 [bq,aF];obtain ⟨_,_,n6⟩:=k4 50 [ah,eG,cN,bP];obtain ⟨_,_,lL⟩:=k1 51 [bP];obtain ⟨_,_,n5⟩:=k4 52 [ah,eG,"kind",bP];obtain ⟨_,_,vo⟩:=k1 53 [bH];obtain ⟨_,_,tj⟩:=k2 54 [aa,aQ];obtain ⟨_,_,lX⟩:=k2 55 [aI,ax];obtain ⟨_,_,pk⟩:=k2 56 [aI,ax];obtain ⟨_,_,tm⟩:=k2 57 [aI,ax];obtain ⟨_,_,qZ⟩:=k2 58 [aI,ax];obtain ⟨_,_,oi⟩:=k3 59 [aw,bc,df];obtain ⟨_,_,lW⟩:=k3 60 [aw,bc,aB];obtain ⟨_,_,mu⟩:=k1 61 [dX];obtain ⟨_,_,lY⟩:=k5 62 [aw,aB,fm,fb,dr];obtain ⟨_,_,qX⟩:=k2 63 [aa,aQ];obtain ⟨_,_,fI⟩:=k4 64 [aa,a9,aX,dY];obtain ⟨_,_,ki⟩:=k2 65 [aa,uA];obtain ⟨_,_,qY⟩:=k2 66 [aw,mQ];obtain ⟨_,_,ju⟩:=k2 67 [aa,aX];obtain ⟨_,_,jt⟩:=k3 68 [aa,ai,gy];obtain ⟨_,_,kh⟩:=k1 69 [ai];obtain ⟨_,_,lM⟩:=k2 70 [aa,ai];obtain ⟨_,_,oh⟩:=k4 71 [aw,aB,uw,aY];obtain ⟨_,_,og⟩:=k3 72 [mC,aB,ai];have Eg:=vn.g (zhc B);have N1:Got P w K mg base gq [aD] 2 (PU K []):=xK.g (zg0 B Eg);have N0:=tf.g (zgp B);have NO:=zx.g (zfm B);have Eh:=xJ.g (zfd B x9 oI NO);have BJ:∀ n,Got P w K mg base fZ [aD] (n+3) (KZ K n)/\Got P w K mg base dV [aD] (n+3) (IH K n)/\Got P w K mg base a8 [cO] (n+3) (Lb K true n):=by
  intro n
  induction n with
  | zero=>exact ⟨pO.g (fun _=>zcc),n4.g (fun _=>zcq),fO.g (fun _=>zcp)⟩
  | succ n ih=>exact ⟨pO.g (zhj B Eh ih.2.1),n4.g (zfl B N0 ih.2.2),fO.g (zft B N1 ih.1)⟩
 have N3:Got P w K mg base dV [aD] 84 (IH K 81):=(BJ 81).2.1;have NT:=zy.g zfx;have pX:=xM.g zga;have Ea:=BX.g zfn;have LF:∀ n,Got P w K mg base bx [ao] (n) (EO K n):=by
  intro n
  induction n with
  | zero=>exact iJ.g (fun _=>zdc)
  | succ n ih=>exact iJ.g (zfj ih)
 have zX:=LF 70;have NK:=xE.y (zf7 B x5 Eg);have z6:=mu.g (z6s B);have Ed:=xG.g (zgr B);have wH:=zD.g (zh4 B pX Ed);have Oe:=pj.g (zhf B);have NP:=Fz.y (zgy B As pX Oe);have NX:=zC.g (zh1 Lad.af Lad.a5 B);have zZ:=oa.g (zfu B NX);have N9:=FC.g (zg3 zZ);have Of:=B2.g (zg8 B pX NT Ea wH N9);have NN:=zw.g (zfy Ea wH);have Ec:=xF.g (zg4 B);have Ef:=nY.g (zfr B zX);have oH:OwnI P w K mg base "NoKind" (He.ga K "NoKind") 1:=⟨zm,ZE wW,zi,⟨_,_,tH.at_,beq_iff_eq.mp tH.fn,zjw Pr,Xp⟩⟩;have GZ:GotM P w K mg base (He.ga K "Book") eS [bf] (1) (La K (He.ga K "Book")):=⟨_,_,zl4 B cU Px,V8,Xu,rH⟩;have zY:=qV.y (zi0 B oH GZ);have Oj:z2h P w K mg base (He.ga K "Book") "rules" [bf,aN] (4) (Qh K (He.ga K "Book") (He.ga K "NoKind")):=⟨_,_,zl8 B cU zY Pw,V7,Xt,rH⟩;have D8:=jg.y (zhg B iP iO Oj);have El:=ph.y (zh7 B Ef zY);have NZ:=xI.g (zgz B ef iS N3 zX);have N2:=xN.g (zfs B gY Eh NZ);have NY:=qU.g (zgx B zX);have Oa:=ti.g (zgs B gZ N2 NY);have LG:∀ n,Got P w K mg base cA [ao] (n) (Iu K n):=by
  intro n
  induction n with
  | zero=>exact kg.g (fun _=>zcf)
  | succ n ih=>exact kg.g (zgu B ih)
 have Od:Got P w K mg base cA [ao] (20) (Iu K 20):=LG 20;have NM:=vm.g (zfe B Od NK);have NL:=vk.y (zhr B Oj NM);have NV:=BY.y (zhl B NL);have NW:=tc.g (zi1 B);have Ej:=n9.g (zhu B GZ NV NW);have N8:=mq.g (zf8 B Ej GZ);have lT:OwnI P w K mg base "Endless" (He.ga K "Endless") 1:=⟨xD,ZE uE,xB,⟨_,_,pU.at_,beq_iff_eq.mp pU.fn,zi7 Pt,Xr⟩⟩;have Em:=qW.y (zgc B lT N8 Ef);have Oc:z2h P w K mg base (He.ga K "Book") "spreads" [bf,aN] (4) (QL K (He.ga K "Book") (He.ga K "NoKind")):=⟨_,_,zi8 B cU zY Pu,V6,Xs,rH⟩;have Ee:=BZ.g (zhm B Oc NN wH);have Fi:∀ n,Got P w K mg base cf [ah,bt,ao] (2*n+5) (Bo K (He.ga K "Book") n):=by
  intro n
  induction n with
  | zero=>exact nX.g (fun _=>zau)
  | succ n ih =>
   have h1:Got P w K mg base bJ [ah,bt,cN] (2*n+6) (IF K (He.ga K "Book") n):=g7.g (YK B Ee ih);exact nX.g (zh8 B zZ Ec h1)
 have tJ:Got P w K mg base cf [ah,bt,ao] 45 (Bo K (He.ga K "Book") 20):=Fi 20;have NQ:=g7.g (YK (n:=20) B Ee tJ);have Ek:=B1.g (zh2 B Of tJ);have Eb:=sY.g (zfi B Ej D8 Ek);have NS:=FA.y (zgg B El Em tJ Eb);have N6:=n5.y (zfb B D8 Ek pX tJ Ed);have D9:=lK.y (zg2 B pX NP);have N5:=lL.g (zfv B);have NU:=xH.g (zff B);have N4:=pf.y (zgb B wH D9 NU);have BK:∀ n,GotX P w K mg base bA [ah,eG,ao,bP] (2*n+51) (IA K (He.ga K "Book") n):=by
  intro n
  induction n with
  | zero=>exact g8.y (fun _=>zal)
  | succ n ih =>
   have h1:GotX P w K mg base cS [ah,eG,cN,bP] (2*n+52) (SN K (He.ga K "Book") n):=n6.y (zfa B N6 Oc ih D9 N5);exact g8.y (zgi B NQ zZ Ec h1 N4)
 have N7:GotX P w K mg base bA [ah,eG,ao,bP] 91 (IA K (He.ga K "Book") 20):=BK 20;have Ei:=xO.y (zfk B eR El Em Eb pX tJ N7);have Oi:=vo.g (zhz B);have oB:=tj.g (zh3 B);have LJ:∀ n,Got P w K mg base bD [aI,ax] (n) (yb K n):=by
  intro n
  induction n with
  | zero=>exact lX.g (fun _=>z6o)
  | succ n ih=>exact lX.g (zf9 B ih)
 have tK:Got P w K mg base bD [aI,ax] (40) (yb K 40):=LJ 40;have GY:=pk.g (ziy B tK);have CM:=tm.g (zii B tK);have WN:=qZ.g (zkv B CM tK GY);have BH:∀ n,Got P w K mg base bY [aw,bc,aB] (n+43) (C3 K n)/\Got P w K mg base fU [aw,bc,df] (n+43) (PQ K n):=by
  intro n
  induction n with
  | zero=>exact ⟨lW.g (fun _=>zcy),oi.g (fun _=>zco)⟩
  | succ n ih=>exact ⟨lW.g (zht B ih.2 ih.1 GY CM),oi.g (zgd B WN ih.1 tK)⟩
 have Eo:Got P w K mg base bY [aw,bc,aB] 220 (C3 K 177):=(BH 177).1;have LL:∀ n,Got P w K mg base dg [aw,aB,fm,fb,dr] (n+1) (Iy K n):=by
  intro n
  induction n with
  | zero=>exact lY.g (fun _=>zce)
  | succ n ih=>exact lY.g (zho B z6 ih)
 have Ou:Got P w K mg base dg [aw,aB,fm,fb,dr] (20+1) (Iy K 20):=LL 20;have Ol:=qX.g (zhw B oB);have LM:∀ n,Got P w K mg base aW [aa,a9,aX,dY] (n+1) (C8 K n):=by
  intro n
  induction n with
  | zero=>exact fI.g (fun _=>zda)
  | succ n ih=>exact fI.g (zh9 B oB ih z6)
 have Ep:Got P w K mg base aW [aa,a9,aX,dY] (13+1) (C8 K 13):=LM 13;have WM:=ki.g (zky B Ol oB Ep);have Oq:=qY.g (zhp B);have LK:∀ n,Got P w K mg base bU [aa,aX] (n+42) (Iq K n):=by
  intro n
  induction n with
  | zero=>exact ju.g (fun _=>z4r)
  | succ n ih=>exact ju.g (zgf B oB ih CM)
 have Oo:Got P w K mg base bU [aa,aX] (20+42) (Iq K 20):=LK 20;have LI:∀ n,Got P w K mg base bT [aa,ai,gy] (n+2) (IB K n):=by
  intro n
  induction n with
  | zero=>exact jt.g (fun _=>z4s)
  | succ n ih=>exact jt.g (zfz B oB ih)
 have Om:Got P w K mg base bT [aa,ai,gy] (31+2) (IB K 31):=LI 31;have LH:∀ n,Got P w K mg base bS [ai] (n) (EN K n):=by
  intro n
  induction n with
  | zero=>exact kh.g (fun _=>z50)
  | succ n ih=>exact kh.g (zhs B ih)
 have En:Got P w K mg base bS [ai] (40) (EN K 40):=LH 40;have Ot:=lM.g (zhk B oB Om En);have Oh:=oh.g (zfq B Eo Ou tK);have Og:=og.g (zgl B T Ei);have WO:GotI P w K mg base "Book" (He.ga K "Book") [bf,"kinds"] (88) (P4 K (He.ga K "Book") (He.ga K "NoBook")):=⟨_,_,zka B fK cU Oa Py,V9,Xv,Ft⟩;exact zge B Oi WM oB Ep WO Oq Eo Oo NS Og GY CM En z6 Ot Oh Ei Pq
end FT
open PySem PySem.W PySem.Calls PyProof.Rows
set_option maxRecDepth 100000 in
set_option maxHeartbeats 0 in
theorem PySem.Challenge.cw_felltimber_k55_reaching_too_far_holds : PySem.Challenge.rw_felltimber_k55_reaching_too_far.Holds := by
 w_on; o_law
 refine HandSHeadRun.head_any (r := OpenLaw.row PySem.Challenge.rw_felltimber_k55_reaching_too_far) (q := view (OpenLaw.row PySem.Challenge.rw_felltimber_k55_reaching_too_far).prog [113]) (H := FT.hk) (ob := FT.ob) (M := 9000) (loose := FT.loose) (d := HandSHeadRun.topDef (OpenLaw.row PySem.Challenge.rw_felltimber_k55_reaching_too_far).prog 113) (kwd := []) FT.ob_eq
  (by kernel_rfl) (fun s => by kernel_rfl) FT.run (by kernel_rfl) (by kernel_rfl) (by kernel_rfl) (by rfl) (by first | assumption | decide +kernel) (by decide +kernel) ⟨rfl, rfl, rfl, rfl, rfl, by decide +kernel⟩ ?hw ?hc
 case hw => w_witness2
 case hc =>
  refine L2.walk_ofE (l := PySem.Challenge.rw_felltimber_k55_reaching_too_far) (n := 63) (k := 230) (x := "_law_script") (CX := L2.CX0) rfl (by decide) (by kernel_rfl) ⟨rfl, by decide, by decide⟩ ?F (fun _ _ _ _ z => z);intro w mg fa h Y G hmg0;obtain ⟨K, KX, c, cx⟩ := Y;have hmg : mg ("law" : PySem.Str) = some (.ref fa) := by
   have e : (HandSHeadRun.topDef (OpenLaw.row PySem.Challenge.rw_felltimber_k55_reaching_too_far).prog 113).name = ("law" : PySem.Str) := by kernel_rfl
   rw [<- e];exact hmg0
  obtain ⟨fd, hb, hF⟩ := FT.facts (P := (PySem.Challenge.rw_felltimber_k55_reaching_too_far).prog) (w := w) KX G hmg c cx;exact ⟨K, fd, FT.spLaw K, KX, hb, fun H a ns hl _ hS => ⟨a, ns, rfl, hS, hl, fun _ => rfl⟩, hF⟩
