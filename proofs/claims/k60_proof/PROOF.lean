import PyProof.Rows.All
import Wide.All
import OpenK.AllK
import Wide.FinOn
import KE.KStateDown
import KE.SortData
import HandS.ForMost
import HandS.More
import HandS.Walk
import HandS.Zip
import HandS.Style
import HandS.TupAny
import HandS.IsInst
import HandS.Wide
import HandS.Flow
import HandS.WordsExc
import HandS.Defaults
import HandS.Head0
import HandS.Head1
import HandS.Head2
import HandS.HeadEnd
import HandS.HeadHook1
import HandS.HeadHook2
import HandS.HeadNt
import KE.DataCmp
import HandS.SortKw
import PyProof.TupleOfSeq
import HandS.NoneIn
import HandS.ExcIs
import HandS.RevRange
import KE.GoesEnum
import KE.DataAny
import HandS.Conv
import HandS.SortInts
import HandS.FStr
import HandS.Strs
import HandS.TupSets
import HandS.DictComp
import HandS.ExcInit
import HandS.SetKeys
import HandS.SetTxt0
import HandS.SetBool
import HandS.SetFor
import KE.GoesEnumKw
import PyProof.Rows.CallKwBuiltin
import KE.DatumOrd
import HandS.ExcField
import HandS.HotCalls
import HandS.Replace
import HandS.TupLe
import KE.DataMinMax
import PyProof.StrBlock2
import HandS.WordsDict
import HandS.TupMul
import HandS.TryOnly
import PyProof.MaxThree
import PyProof.NeKinds
import HandS.Deep
import HandS.Dict
import KE.GoesMore
import PyProof.EqKinds
import HandS.Hot
import HandS.ExcCtx
import PySem.Challenge.RW_felltimber_k60_whole_duel_to_the_end
set_option Elab.async false
set_option linter.all false
set_option maxRecDepth 100000
set_option maxHeartbeats 16000000
namespace FT
open PySem PySem.W PySem.Spec PyProof.Rows L2
abbrev aa:Str:="grove"
abbrev af:Str:="book"
abbrev ah:Str:="_law_pot_here"
abbrev ao:Str:="other"
abbrev aq:Str:="thing"
abbrev aw:Str:="self"
abbrev aF:Str:="number"
abbrev aI:Str:="name"
abbrev aJ:Str:="_law_many"
abbrev aO:Str:="ladder"
abbrev aR:Str:="rule"
abbrev aV:Str:="_law_grove"
abbrev aX:Str:="many"
abbrev aY:Str:="one"
abbrev aZ:Str:="tree"
abbrev a5:Str:="rules_from_nought"
abbrev a6:Str:="_law_book"
abbrev a7:Str:="place"
abbrev a8:Str:="are_grove_pairs"
abbrev bf:Str:="pairs_within"
abbrev bj:Str:="worths"
abbrev bt:Str:="fall_in_grove"
abbrev bD:Str:="_law_script"
abbrev bJ:Str:="reckoned_tree"
abbrev bK:Str:="goal"
abbrev bO:Str:="rest_or_nought"
abbrev bP:Str:="_law_drawn_place"
abbrev bQ:Str:="check_kinds"
abbrev bU:Str:="all_together"
abbrev bV:Str:="_law_take"
abbrev cb:Str:="_law_plain_book"
abbrev cg:Str:="reckoned"
abbrev cq:Str:="other_book"
abbrev cu:Str:="all_places"
abbrev cz:Str:="further_needed"
abbrev cA:Str:="_law_worths_of"
abbrev cF:Str:="things"
abbrev cG:Str:="kinds_within"
abbrev cH:Str:="fall_in_tree"
abbrev cI:Str:="ending_kinds"
abbrev cS:Str:="is_less"
abbrev cT:Str:="endless_kinds"
abbrev cU:Str:="_law_grove_of"
abbrev cW:Str:="check_kind"
abbrev cX:Str:="check_ends"
abbrev cY:Str:="_law_names_here"
abbrev dq:Str:="further_ones"
abbrev dt:Str:="fall_of_bare"
abbrev dv:Str:="check_number"
abbrev dw:Str:="_law_kind_at"
abbrev dQ:Str:="pairs"
abbrev dR:Str:="is_whole"
abbrev dS:Str:="is_grove"
abbrev d6:Str:="goal_of_one"
abbrev d7:Str:="check_hands"
abbrev d8:Str:="check_bound"
abbrev d9:Str:="alike_ahead"
abbrev ee:Str:="_law_worths"
abbrev eB:Str:="owns"
abbrev eU:Str:="names"
abbrev eY:Str:="own_ranks"
abbrev eZ:Str:="is_rising"
abbrev e7:Str:="_law_long"
abbrev ff:Str:="is_rule_of"
abbrev fh:Str:="_law_names"
abbrev fj:Str:="_law_kinds"
abbrev fO:Str:="together"
abbrev fP:Str:="_law_bag"
abbrev fT:Str:="outlasted"
abbrev fU:Str:="number_of"
abbrev fV:Str:="lead_into"
abbrev fW:Str:="is_tree"
abbrev fX:Str:="is_many"
abbrev fY:Str:="deep_of"
abbrev fZ:Str:="are_kinds"
abbrev gi:Str:="_law_said"
abbrev gJ:Str:="struck"
abbrev gK:Str:="joined"
abbrev gM:Str:="behind"
abbrev gN:Str:="_law_place"
abbrev hY:Str:="tree_at"
abbrev ia:Str:="steps_of"
abbrev ie:Str:="steps_in"
abbrev ig:Str:="parts_of"
abbrev ij:Str:="many_of"
abbrev ik:Str:="many_at"
abbrev iq:Str:="is_name"
abbrev ir:Str:="_law_pot"
abbrev jB:Str:="_law_pairs"
abbrev j5:Str:="without"
abbrev j6:Str:="rule_at"
abbrev j7:Str:="lowered"
abbrev j8:Str:="is_rule"
abbrev j9:Str:="is_kind"
abbrev ka:Str:="fall_to"
abbrev lx:Str:="_law_most"
abbrev lI:Str:="_law_turned"
abbrev mZ:Str:="spread"
abbrev m6:Str:="run_of"
abbrev m7:Str:="groves"
abbrev ng:Str:="fallen"
abbrev nh:Str:="ending"
abbrev ni:Str:="answer"
abbrev pf:Str:="power"
abbrev ph:Str:="fresh"
abbrev pj:Str:="climb"
abbrev uW:Str:="times"
abbrev uX:Str:="leads"
abbrev uY:Str:="laden"
abbrev uZ:Str:="grown"
abbrev u5:Str:="above"
abbrev wa:Str:="at"
abbrev CV:Str:="turn"
abbrev CW:Str:="rest"
abbrev CY:Str:="rank"
abbrev CZ:Str:="fall"
abbrev C0:Str:="both"
abbrev Nj:Str:="whole"
abbrev Nk:Str:="inner"
abbrev OU:Str:="some"
theorem Z0:0<=sizeLine:=by decide
theorem Z1:1<=sizeLine:=by decide
theorem Z2:2<=sizeLine:=by decide
theorem Z3:3<=sizeLine:=by decide
theorem mi {α:Type} {l:List α} {a:α} (n:Nat) (h:l[n]?=some a:=by exact rfl):a ∈ l:=List.mem_of_getElem? h
theorem Hm {a b:Nat} {A:PySem.Around} (h:Room a A) (l:b<=a:=by omega):Room b A:=h.mono l
universe u
abbrev Ka:=@pe_tup
abbrev Ke:=@wpAny_bind
abbrev Kf:=@ps_expr
abbrev Ki:=@PySem.F.plainAttrs_list
abbrev Kk:=@pw_or
abbrev Kn:=@pe_bm
abbrev Ko:=@op_add
theorem Kp {α:Type} {l:List α} {i:Nat} (h:i<l.length):l[i]?=some l[i]:=List.getElem?_eq_getElem h
theorem Kq {α:Type} {l:List α} {i:Nat} {a:α} (h:l[i]?=some a):∃ h:i<l.length,l[i]=a:=List.getElem?_eq_some_iff.mp h
theorem Kr {α β:Type} {f:α->β} {o:Option α} {b:β} (h:o.map f=some b):∃ a,o=some a/\f a=b:=Option.map_eq_some_iff.mp h
theorem Ks {p:Prop} [Decidable p] (h:decide p=true):p:=of_decide_eq_true h
theorem Ku {α β:Type} {f:α->β} {b:β} {l:List α} (h:∃ a,a ∈ l/\f a=b):b ∈ l.map f:=List.mem_map.mpr h
theorem Kw (a:Int):a<=a:=Int.le_refl a
theorem Kx {α:Type} {i:Nat} {l:List α}:(l.take i).length=min i l.length:=List.length_take ..
theorem Ky {α β:Type} {f:α->β} {a:α} {l:List α}:(a::l).map f=f a::l.map f:=List.map_cons ..
theorem Ja {α:Sort u} {a:α}:a=a:=rfl
abbrev Qa:=@pa_cons
abbrev Qb:=@pa_nil
abbrev Qc:=@pss_cons
abbrev Qe:=@pss_one
abbrev Qg:=@pe_int
abbrev Qi:=@pgs_cons
abbrev Qj:=@ps_ret
abbrev Ql:=@ix_tup
abbrev Qm:=@pe_ix
abbrev Qn:=@PySem.W.Frag
abbrev Qo:=@pt_val
abbrev Qp:=@pt_not
abbrev Qr:=@ps_if
abbrev Qs:=@pe_callB
theorem Qt {H:Hp} {a:Addr} {o:HO}:upd H a o a=some o:=upd_same
theorem Qu {α:Type} {l:List α} {n:Nat} {a:α} (h:l[n]?=some a):a ∈ l:=List.mem_of_getElem? h
theorem Qv {α:Type} {a b:α} {l:List α} (h:a ∈ b::l):a=b\/a ∈ l:=List.mem_cons.mp h
theorem Qw {α:Type} {a:α} {l k:List α} (h:a ∈ l++k):a ∈ l\/a ∈ k:=List.mem_append.mp h
theorem Qx {α β:Type} {f:α->β} {b:β} {l:List α} (h:b ∈ l.map f):∃ a,a ∈ l/\f a=b:=List.mem_map.mp h
theorem Qy {α:Type} {a b:α} (h:a ∈ [b]):a=b:=List.mem_singleton.mp h
theorem Qz {p:Prop} [Decidable p] (h:¬p):decide p=false:=decide_eq_false h
theorem Ya {p:Prop} [Decidable p] (h:p):decide p=true:=decide_eq_true h
theorem Yb {a b c:Nat} (h:a<=b) (k:b<=c):a<=c:=Nat.le_trans h k
theorem Yc (a:Nat):a<=a:=Nat.le_refl a
theorem Yd {α:Type} {a b:α} (h:some a=some b):a=b:=Option.some.inj h
theorem Ye {α β:Type} {f:α->β} {l:List α}:(l.map f).length=l.length:=List.length_map ..
theorem Yf {α:Type} {l k:List α}:(l++k).length=l.length+k.length:=List.length_append ..
theorem Yg {α:Type} {l:List α} {i:Nat}:l.take (i+1)=l.take i++l[i]?.toList:=List.take_add_one ..
theorem Yh {α:Type} {l:List α}:l.take l.length=l:=List.take_length ..
theorem Yi {α:Type} {a:α}:[a].length=1:=List.length_singleton ..
theorem Yj {α β:Type} {f:α->β} {l k:List α}:(l++k).map f=l.map f++k.map f:=List.map_append ..
theorem Yk {α:Type} {a:α} {l:List α}:(a::l).length=l.length+1:=List.length_cons ..
variable {n k i kk:Nat} {H:Hp} {a p C c t f q i1 i2:Addr} {ns:List Str} {v x u:V} {m B D:Int} {K:Qn} {xs us:List V} {P:Program} {d:PyData} {z:Str} {elts:List Expr} {wu:Pos} {mg:Str->Option Value} {Q:VK} {e:Expr} {h base:Heap} {bad:List Addr} {E:XK}
theorem bh {A:Around} {e:Env} (hr:Room k (A.deeper e)):A.units+3+200 < cLine:=by
 have:=hr.un;have h3:(A.deeper e).units=A.units+3:=rfl;omega
theorem u1 {A:Around} {e:Env} (h:Room k (A.deeper e)):A.units+3+1<cLine:=by have:=bh h; omega
theorem tE {A:Around} {e:Env} (h:Room k (A.deeper e)):A.units+3+195<cLine:=by have:=bh h; omega
theorem Dm {A:Around} {e:Env} (h:Room k (A.deeper e)):A.units+3+64<cLine:=by have:=bh h; omega
theorem aL {α:Type} {a:α}:¬ a ∈ ([]:List α):=List.not_mem_nil
theorem bF {α:Type} {a:α} {l:List α}:a ∈ a::l:=List.mem_cons_self
theorem bX {α:Type} (y:α) {a:α} {l:List α} (h:a ∈ l):a ∈ y::l:=List.mem_cons_of_mem y h
theorem i8 {α:Type} {a:α} {l:List α} (k:List α) (h:a ∈ l):a ∈ l++k:=List.mem_append_left k h
theorem mW {α:Type} {a:α} {l:List α} (k:List α) (h:a ∈ l):a ∈ k++l:=List.mem_append_right k h
theorem xE (h:n<=10000000):n < sizeLine:=Nat.lt_of_le_of_lt h (by decide)
structure SB (ps:List Addr) (H H':Hp):Prop where
 keep:∀ b o,H b=some o->b ∉ ps->H' b=some o
 tups:∀ b xs,H b=some (.tup xs)->H' b=some (.tup xs)
 frzs:∀ b o u,H b=some (.frz o u)->H' b=some (.frz o u)
 kh:∀ b,H' b=none->H b=none
section
variable {K:Qn} {ps qs:List Addr} {H H' H1 H2:Hp} {a p:Addr} {xs:List V}
theorem SB.refl:SB ps H H:=⟨fun _ _ h _=>h,fun _ _ h=>h,fun _ _ _ h=>h,fun _ h=>h⟩
theorem SB.trans (a:SB ps H H1) (b:SB ps H1 H2):SB ps H H2 :=
 ⟨fun c o h n=>b.keep c o (a.keep c o h n) n,fun c x h=>b.tups c x (a.tups c x h),fun c o u h=>b.frzs c o u (a.frzs c o u h),fun c h=>a.kh c (b.kh c h)⟩
theorem SB.mono (h:SB ps H H') (hs:∀ b ∈ ps,b ∈ qs):SB qs H H':=⟨fun c o e n=>h.keep c o e fun z=>n (hs c z),h.tups,h.frzs,h.kh⟩
theorem SB.nil (h:SB [] H H'):SB ps H H':=h.mono fun _ z=>absurd z (aL)
theorem SB.new (h:H p=none) (o:HO):SB ps H (upd H p o):=by
 refine ⟨fun b u e _=>?_,fun b u e=>?_,fun b v u e=>?_,fun b e=>?_⟩
 ·rw [upd_ne (ne_of_none e h)]; exact e
 ·rw [upd_ne (ne_of_none e h)]; exact e
 ·rw [upd_ne (ne_of_none e h)]; exact e
 ·by_cases q:b=p
  ·subst q; exact h
  ·rw [upd_ne q] at e; exact e
theorem Jb {H:Hp} {p:Addr} (h:H p=none) (o:HO):SB [] H (upd H p o):=SB.new h o
theorem n6 {ps:List Addr} {H:Hp} {a:Addr} {o:HO} (_:SB ps H (upd H a o)):upd H a o a=some o:=upd_same
theorem qX {K:PySem.W.Frag} {ps:List Addr} {H:Hp} {a:Addr} {l:List V} (_:SB ps H (upd H a (.tup l))):SqT K (upd H a (.tup l)) a l:=SqT.of upd_same
theorem SB.set (h:H p=some (.lst xs)) (hp:p ∈ ps) (o:HO):SB ps H (upd H p o):=by
 refine ⟨fun b u e n=>?_,fun b u e=>?_,fun b v u e=>?_,fun b e=>?_⟩
 ·rw [upd_ne (fun (z:b=p)=>n (by rw [z]; exact hp))]; exact e
 ·rw [upd_ne (fun (z:b=p)=>by subst z; rw [h] at e; cases e)]; exact e
 ·rw [upd_ne (fun (z:b=p)=>by subst z; rw [h] at e; cases e)]; exact e
 ·by_cases q:b=p
  ·subst q; rw [Qt] at e; cases e
  ·rw [upd_ne q] at e; exact e
theorem SB.drop (h:SB (p::ps) H H') (n:H p=none):SB ps H H':=by
 refine ⟨fun b o e m=>h.keep b o e fun z=>?_,h.tups,h.frzs,h.kh⟩;rcases Qv z with z | z
 ·subst z; rw [n] at e; cases e
 ·exact m z
theorem SB.aP (e:SB ps H H') (h:SqT K H a xs):SqT K H' a xs:=by
 rcases h with (h | ⟨o,h⟩) | h
 ·exact .inl (.inl (e.tups _ _ h))
 ·exact .inl (.inr ⟨o,e.frzs _ _ _ h⟩)
 ·exact .inr h
theorem SB.fu (e:SB ps H H') (n:a ∉ ps) (h:SqL K H a xs):SqL K H' a xs:=by
 rcases h with (h | ⟨o,h⟩) | h
 ·exact .inl (.inl (e.keep _ _ h n))
 ·exact .inl (.inr ⟨o,e.frzs _ _ _ h⟩)
 ·exact .inr h
end
inductive Lad where
 | nil
 | cons (e:Lad) (m:Int) (r:Lad)
 deriving DecidableEq
namespace Lad
def encs:Lad->List PyData
 | .nil=>[]
 | .cons e m r=>.tuple [.tuple e.encs,.int m]::r.encs
def enc (l:Lad):PyData:=.tuple l.encs
def parts:Lad->Nat
 | .nil=>0
 | .cons e _ r=>1+e.parts+r.parts
def deep:Lad->Nat
 | .nil=>0
 | .cons e _ r=>max (1+e.deep) r.deep
def len:Lad->Nat
 | .nil=>0
 | .cons _ _ r=>1+r.len
theorem kX:∀ l:Lad,l.encs.length=l.len
 | .nil=>rfl
 | .cons e m r=>by show r.encs.length+1=1+r.len; rw [kX r,Nat.add_comm]
theorem aN:∀ l:Lad,l.len<=l.parts
 | .nil=>Yc _
 | .cons e m r=>by have:=aN r; show 1+r.len<=1+e.parts+r.parts; omega
theorem jw:∀ l k:Lad,alikeAll l.encs k.encs=true
 | .nil,_=>by simp [encs,alikeAll]
 | .cons e m r,.nil=>by simp [encs,alikeAll]
 | .cons e m r,.cons e' m' r'=>by
  have h1:=jw e e';have h2:=jw r r';simp [encs,alikeAll,alike,h1,h2]
theorem dN (l k:Lad):alike l.enc k.enc=true:=by
 show alike (.tuple l.encs) (.tuple k.encs)=true;rw [alike]; exact jw l k
theorem cy:∀ l:Lad,PyData.depthAll l.encs<=2*l.deep
 | .nil=>by simp [encs,PyData.depthAll,deep]
 | .cons e m r=>by
  have h1:=cy e;have h2:=cy r;simp only [encs,PyData.depthAll,PyData.depth,deep];omega
theorem eM (l:Lad):l.enc.depth<=2*l.deep+1:=by
 have:=cy l;simp only [enc,PyData.depth];omega
theorem y5 (l:Lad):l.enc ≠ .none:=fun h=>nomatch h
end Lad
def IQ (K:Qn):R2:=fun x y H Q=>∃ d e,Dp K H x d/\Dp K H y e/\alike d e=true/\d ≠ .none/\d.depth<=100/\Q (.bl (dataLt d e)) H
section
variable {X:Cx}
theorem Vv (hu:X.A.units+100 < cLine):OpR X (compareOp .Lt) (IQ X.K):=by
 intro pins s σ H x y v u Q I rx ry h;obtain ⟨d,e,hd,he,al,hn,hdp,q⟩:=h;obtain ⟨as,r1⟩:=Dp.reads I d x v hd rx;obtain ⟨bs,r2⟩:=Dp.reads I e y u he ry;exact rcLt_alike d e X.A s v u as bs r1 r2 al hn (by have:=Nat.min_le_left d.depth e.depth; omega) X.prog X.w X.xe _ ⟨.bl _,H,I,rfl,q⟩
end
mutual
def gH:PyData->Bool
 | .list _=>false
 | .dict _=>false
 | .tuple ds=>ki ds
 | _=>true
def ki:List PyData->Bool
 | []=>true
 | d::ds=>gH d&&ki ds
end
section
variable {K:Qn} {ps:List Addr} {H H':Hp}
mutual
theorem fK (e:SB ps H H'):∀ (d:PyData) (v:V),gH d=true->Dp K H v d->Dp K H' v d
 | .none,_,_,h=>by cases h; exact .non
 | .bool b,_,_,h=>by cases h; exact .bl b
 | .int i,_,_,h=>by cases h; exact .int i
 | .str x,_,_,h=>by cases h; exact .str x
 | .list ds,_,n,_=>by simp [gH] at n
 | .dict ds,_,n,_=>by simp [gH] at n
 | .tuple ds,_,n,h=>by
  cases h with
  | tup hs ha=>exact .tup (e.aP hs) (PX e ds _ (by simpa [gH] using n) ha)
theorem PX (e:SB ps H H'):∀ (ds:List PyData) (vs:List V),ki ds=true->DpAll K H vs ds->DpAll K H' vs ds
 | [],_,_,h=>by cases h; exact .nil
 | d::ds,_,n,h=>by
  cases h with
  | cons h1 h2 =>
   simp [ki] at n;exact .cons (fK e d _ n.1 h1) (PX e ds _ n.2 h2)
end
end
theorem Lad.cw:∀ l:Lad,ki l.encs=true
 | .nil=>by simp [Lad.encs,ki]
 | .cons e m r=>by simp [Lad.encs,ki,gH,Lad.cw e,Lad.cw r]
theorem Lad.ag (l:Lad):gH l.enc=true:=by simp [Lad.enc,gH,Lad.cw l]
def LA (K:Qn) (H:Hp) (v:V) (l:Lad):Prop:=Dp K H v l.enc
section
variable {K:Qn} {ps:List Addr} {H H':Hp} {v:V} {l:Lad}
theorem LA.sb (h:LA K H v l) (e:SB ps H H'):LA K H' v l:=fK e _ _ l.ag h
theorem LA.tup (h:LA K H v l):∃ a xs,v=.ref a/\SqT K H a xs/\DpAll K H xs l.encs:=by
 have h':Dp K H v (.tuple l.encs):=h;cases h' with
 | tup hs ha=>exact ⟨_,_,Ja,hs,ha⟩
theorem DpAll.length:∀ {vs:List V} {ds:List PyData},DpAll K H vs ds->vs.length=ds.length
 | _,_,.nil=>rfl
 | _,_,.cons _ t=>by rw [Yk,Yk,DpAll.length t]
theorem DpAll.get:∀ {vs:List V} {ds:List PyData} {i:Nat} {v:V},DpAll K H vs ds->vs[i]?=some v->∃ d,ds[i]?=some d/\Dp K H v d
 | _,_,_,_,.nil,e=>by simp at e
 | _,_,0,_,.cons h t,e=>by simp at e; subst e; exact ⟨_,Ja,h⟩
 | _,_,i+1,v,.cons h t,e=>by
  obtain ⟨d,h1,h2⟩:=DpAll.get (i:=i) (v:=v) t (by simpa using e);exact ⟨d,by simpa using h1,h2⟩
end
structure BI (mg:Str->Option Value):Prop where
 len:mg "len"=none
 isinstance:mg "isinstance"=none
 int:mg "int"=none
 bool:mg "bool"=none
 str:mg "str"=none
 tuple:mg "tuple"=none
 list:mg "list"=none
 all:mg "all"=none
 zip:mg "zip"=none
 sum:mg "sum"=none
 max:mg "max"=none
 range:mg "range"=none
 enumerate:mg "enumerate"=none
 abs:mg "abs"=none
 sorted:mg "sorted"=none
 min:mg "min"=none
 reversed:mg "reversed"=none
 any:mg "any"=none
 set:mg "set"=none
 dict:mg "dict"=none
 repr:mg "repr"=none
structure Got (P:Program) (w:World) (K:Qn) (mg:Str->Option Value) (base:Heap) (x:Str) (ps:List Str) (k:Nat) (sp:Sp):Prop where
 ex:∃ (f:Addr) (fd:FuncData),FnOk P w K mg base CX0 k f fd ps sp/\PySem.W.keepIn K (.ref f)=true/\Binds K fd ps []/\mg x=some (.ref f)
section
variable {X:Cx} {x:Str} {ps:List Str} {k:Nat} {sp:Sp} {e:Expr} {es:List Expr} {t:TA} {p pos:Pos}
theorem bc (G:Got X.prog X.w X.K X.mg X.base x ps k sp) (hr:Room k X.A) (hg:Gl X x) (ha:PA X (e::es) t) (yH:(x == ("__debug__":Str))=false:=by decide) (he:starEach (e::es) X.env=(false,eval e X.env)::starEach es X.env:=by rfl) (fc:(backTo pos (starEach es X.env)).any (·.1)=false:=by rfl) :
  PE X (.Call (.Name x p) (e::es) [] pos) (tCall sp [] E0 t):=by
 obtain ⟨f,fd,h1,h2,h3,h4⟩:=G.ex;exact pe_call h1 hr hg h4 h2 h3 .nil pass0 ha yH he fc
end
def U0 (K:Qn):List V->Hp->VK->Prop:=fun xs H Q=>∃ (x:V) (T n:String) (b:Bool),xs=[x,.ty T]/\TyX K H x (.type n)/\kitB n T=some b/\Q (.bl b) H
section
variable {X:Cx}
theorem zc8:CallR X (.builtin "isinstance") (U0 X.K):=by
 intro pins s σ H xs us Q I r h;obtain ⟨x,T,n,b,rfl,ty,e,q⟩:=h;exact call_isi pins s σ H _ us Q I r ⟨x,.ty T,.type n,.type T,b,Ja,.ty T,ty,kit_ty e,q⟩
theorem zja {T:Str} {T':String} {pos:Pos} (hg:Gl X T) (hm:X.mg T=none) (hv:bootBuiltins T=some (.type T')) (hn:T ≠ "__name__":=by decide) (hd:(T == ("__debug__":Str))=false:=by decide):PE X (.Name T pos) (tC (.ty T')):=pe_bltn hg hm hv rfl hn hd
theorem xC {te:TE} {T:Str} {T':String} {p p2 pos:Pos} (B:BI X.mg) (he:PE X e te) (hm:X.mg T=none) (hv:bootBuiltins T=some (.type T')) (hg:Gl X "isinstance":=by rfl) (hg2:Gl X T:=by rfl) (hn:T ≠ "__name__":=by decide) (hd:(T == ("__debug__":Str))=false:=by decide)
  (hs:starEach [e,.Name T p2] X.env=(false,eval e X.env)::starEach [.Name T p2] X.env:=by rfl) (fc:(backTo pos (starEach [.Name T p2] X.env)).any (·.1)=false:=by rfl) :
  PE X (.Call (.Name "isinstance" p) [e,.Name T p2] [] pos) (tCB (U0 X.K) (tCons te (tCons (tC (.ty T')) tNil))) :=
 Qs zc8 hg B.isinstance boot_isinstance (Qa he (Qa (zja hg2 hm hv hn hd) Qb) hs) (by decide) (by decide) hs fc
end
mutual
inductive Th (K:Qn) (ps:List Addr) (H:Hp):V->PyData->Prop
 | int (i:Int):Th K ps H (.int i) (.int i)
 | tup {a:Addr} {xs:List V} {ds:List PyData}:SqT K H a xs->z6e K ps H xs ds->Th K ps H (.ref a) (.tuple ds)
 | vw {v:V} {n:String}:TyX K H v (.type n)->kitB n "tuple"=some false->(kitB n "int"=some false\/n="bool")->(∀ a,v=.ref a->a ∉ ps)->Th K ps H v .none
inductive z6e (K:Qn) (ps:List Addr) (H:Hp):List V->List PyData->Prop
 | nil:z6e K ps H [] []
 | cons {v:V} {vs:List V} {d:PyData} {ds:List PyData}:Th K ps H v d->z6e K ps H vs ds->z6e K ps H (v::vs) (d::ds)
end
def qJ:PyData->Bool
 | .int i=>decide (1<=i)
 | _=>false
section
variable {K:Qn} {ps:List Addr} {H H':Hp}
theorem HP (h:SqT K H a xs):TyX K H (.ref a) (.type "tuple"):=by
 rcases h with (h | ⟨o,h⟩) | ⟨o,cn,n,h,c,_⟩
 ·exact .base (.tup h)
 ·exact .fTuple h
 ·exact .kTuple h c
theorem Th.whole (h:Th K ps H v d):∃ n b1 b2,TyX K H v (.type n)/\kitB n "int"=some b1/\(b1=true->kitB n "bool"=some b2)/\((b1&&!b2)=true->∃ i,v=.int i/\d=.int i)/\((b1&&!b2)=false->qJ d=false):=by
 cases h with
 | int i=>exact ⟨"int",true,false,.base (.int i),by decide +kernel,fun _=>by decide +kernel,fun _=>⟨i,rfl,rfl⟩,fun z=>(nomatch z)⟩
 | tup hs ha=>exact ⟨"tuple",false,false,(HP hs),by decide +kernel,fun z=>(nomatch z),fun z=>(nomatch z),fun _=>rfl⟩
 | @vw v n ty k1 k2 _ =>
  rcases k2 with k2 | k2
  ·exact ⟨n,false,false,ty,k2,fun z=>(nomatch z),fun z=>(nomatch z),fun _=>rfl⟩
  ·subst k2;exact ⟨"bool",true,true,ty,by decide +kernel,fun _=>by decide +kernel,fun z=>(nomatch z),fun _=>rfl⟩
theorem C7 {n:String} (e:SB ps H H') (hn:∀ a,v=.ref a->a ∉ ps) (h:TyX K H v (.type n)):TyX K H' v (.type n):=by
 cases h with
 | base h =>
  cases h with
  | non=>exact .base .non
  | bl x=>exact .base (.bl x)
  | int i=>exact .base (.int i)
  | str x=>exact .base (.str x)
  | flt x=>exact .base (.flt x)
  | lst h=>exact .base (.lst (e.keep _ _ h (hn _ rfl)))
  | frz h=>exact .base (.frz (e.frzs _ _ _ h))
  | tup h=>exact .base (.tup (e.tups _ _ h))
  | dK h=>exact .base (.dK (e.keep _ _ h (hn _ rfl)))
  | dT h=>exact .base (.dT (e.keep _ _ h (hn _ rfl)))
 | byt b=>exact .byt b
 | set h=>exact .set (e.keep _ _ h (hn _ rfl))
 | kList h c=>exact .kList h c
 | kTuple h c=>exact .kTuple h c
 | kDict h c=>exact .kDict h c
 | fTuple h=>exact .fTuple (e.frzs _ _ _ h)
 | fDict h=>exact .fDict (e.frzs _ _ _ h)
end
inductive Bears (K:Qn) (H:Hp) {β:Type} (enc:β->PyData):List V->List β->Prop
 | nil:Bears K H enc [] []
 | cons {v:V} {vs:List V} {b:β} {bs:List β}:Dp K H v (enc b)->Bears K H enc vs bs->Bears K H enc (v::vs) (b::bs)
section
variable {K:Qn} {H H':Hp} {β:Type} {enc:β->PyData} {ps:List Addr}
theorem Bears.length:∀ {vs:List V} {bs:List β},Bears K H enc vs bs->vs.length=bs.length
 | _,_,.nil=>rfl
 | _,_,.cons _ t=>by rw [Yk,Yk,Bears.length t]
theorem Bears.dp:∀ {vs:List V} {bs:List β},Bears K H enc vs bs->DpAll K H vs (bs.map enc)
 | _,_,.nil=>.nil
 | _,_,.cons h t=>.cons h (Bears.dp t)
theorem Bears.of:∀ {vs:List V} {bs:List β},DpAll K H vs (bs.map enc)->Bears K H enc vs bs
 | [],[],_=>.nil
 | _::_,[],h=>by cases h
 | [],_::_,h=>by cases h
 | v::vs,b::bs,h=>by
  cases h with
  | cons h1 h2=>exact .cons h1 (Bears.of h2)
theorem Bears.get:∀ {vs:List V} {bs:List β} {i:Nat} {v:V},Bears K H enc vs bs->vs[i]?=some v->∃ b,bs[i]?=some b/\Dp K H v (enc b)
 | _,_,_,_,.nil,e=>by simp at e
 | _,_,0,_,.cons h t,e=>by simp at e; subst e; exact ⟨_,Ja,h⟩
 | _,_,i+1,v,.cons h t,e=>by
  obtain ⟨d,h1,h2⟩:=Bears.get (i:=i) (v:=v) t (by simpa using e);exact ⟨d,by simpa using h1,h2⟩
theorem Bears.append:∀ {xs ys:List V} {bs cs:List β},Bears K H enc xs bs->Bears K H enc ys cs->Bears K H enc (xs++ys) (bs++cs)
 | _,_,_,_,.nil,h=>h
 | _,_,_,_,.cons a b,h=>.cons a (Bears.append b h)
theorem Bears.sb (e:SB ps H H') (hn:∀ b,gH (enc b)=true):∀ {xs:List V} {bs:List β},Bears K H enc xs bs->Bears K H' enc xs bs
 | _,_,.nil=>.nil
 | _,_,.cons a b=>.cons (fK e _ _ (hn _) a) (Bears.sb e hn b)
theorem Bears.drop (n:Nat):∀ {xs:List V} {bs:List β},Bears K H enc xs bs->Bears K H enc (xs.drop n) (bs.drop n):=by
 induction n with
 | zero=>intro xs bs h; exact h
 | succ n ih =>
  intro xs bs h;cases h with
  | nil=>exact .nil
  | cons a b=>exact ih b
end
section
variable {X:Cx} {pins:List (Addr × Obj)} {σ:L2.St} {H:Hp} {s:Shared} {β:Type} {enc:β->PyData}
theorem FD (I:Inv X pins σ H s):∀ {vs:List V} {us:List Value} {bs:List β},Bears X.K H enc vs bs->Vals vs us ->
  EachIs (fun u b=>∃ v,RelV v u/\Dp X.K H v (enc b)) us bs/\EachIs (fun u b=>∃ as,Reads s.heap u (enc b) as) us bs
 | _,_,_,.nil,.nil=>⟨.nil,.nil⟩
 | _,_,_,.cons h t,.cons r u=>by
  obtain ⟨h1,h2⟩:=FD I t u;exact ⟨.cons ⟨_,r,h⟩ h1,.cons (Dp.reads I _ _ _ h r) h2⟩
theorem Ie {K:Qn}:∀ {us:List Value} {bs:List β},EachIs (fun u b=>∃ v,RelV v u/\Dp K H v (enc b)) us bs->∃ vs,Vals vs us/\Bears K H enc vs bs
 | _,_,.nil=>⟨[],.nil,.nil⟩
 | _,_,.cons ⟨v,r,h⟩ t=>by
  obtain ⟨vs,h1,h2⟩:=Ie t;exact ⟨v::vs,.cons r h1,.cons h h2⟩
end
section
variable {P:Program} {w:World} {K:Qn} {mg:Str->Option Value} {base:Heap} {f:Addr} {fd:FuncData}
def HZ (K:Qn):Sp:=fun vs H Q _=>∃ (v:V) (n:String) (b1 b2:Bool),vs=[v]/\TyX K H v (.type n)/\kitB n "int"=some b1/\(b1=true->kitB n "bool"=some b2)/\Q (.bl (b1&&!b2)) H
def Ny (K:Qn) (ps:List Addr):Sp:=fun vs H Q _=>∃ (v:V) (d:PyData),vs=[v]/\Th K ps H v d/\Q (.bl (qJ d)) H
end
def ltsD:List PyData->List Bool
 | []=>[]
 | [_]=>[]
 | a::b::r=>dataLt a b::ltsD (b::r)
def HY (ds:List PyData):Bool:=(ltsD ds).all id
theorem QE:∀ ds:List PyData,(ltsD ds).length=ds.length-1
 | []=>rfl
 | [_]=>rfl
 | a::b::r=>by
  have h:=QE (b::r);show (ltsD (b::r)).length+1=_;rw [h]; simp
theorem WH:∀ (ds:List PyData) (i:Nat) (d e:PyData),ds[i]?=some d->ds[i+1]?=some e->(ltsD ds)[i]?=some (dataLt d e)
 | [],_,_,_,h,_=>by simp at h
 | [_],_,_,_,_,h=>by simp at h
 | a::b::r,0,d,e,h1,h2=>by simp at h1 h2; subst h1 h2; rfl
 | a::b::r,i+1,d,e,h1,h2=>by
  have:=WH (b::r) i d e (by simpa using h1) (by simpa using h2);simpa [ltsD] using this
theorem L9 (xs:List V):cutV xs (some 1) none=xs.drop 1:=by
 unfold cutV;have h1:HT.sIx xs.length 0 (some 1)=min 1 xs.length:=HT.sIx_nat xs.length 0 1;have h2:HT.sIx xs.length xs.length none=xs.length:=rfl;rw [h1,h2];cases xs with
 | nil=>rfl
 | cons x r =>
  have:min 1 (x::r).length=1:=by simp
  rw [this];simp
section
variable {P:Program} {w:World} {K:Qn} {mg:Str->Option Value} {base:Heap} {f:Addr} {fd:FuncData}
def OkD (d:PyData):Prop:=gH d=true/\d ≠ .none/\d.depth<=100
def Wr (K:Qn):Sp:=fun vs H Q _=>∃ (a:Addr) (xs:List V) (ds:List PyData),vs=[.ref a]/\SqL K H a xs/\DpAll K H xs ds/\(∀ d ∈ ds,OkD d)/\AllAlike ds/\xs.length<=1000 /\
 ∀ H',SB [] H H'->Q (.bl (HY ds)) H'
abbrev WK:List Str:=[cF,"low","high"]
end
def Lad.num (i:Int):Lad:=if i=0 then .nil else .cons .nil i .nil
def Lad.lt (l k:Lad):Bool:=dataLt l.enc k.enc
section
variable {P:Program} {w:World} {K:Qn} {mg:Str->Option Value} {base:Heap} {f:Addr} {fd:FuncData}
theorem HV (h:SqT K H p []):LA K H (.ref p) .nil:=Dp.tup h .nil
theorem Vx {e:Lad} (h:SqT K H p [.ref q]) (h2:SqT K H q [u,.int m]) (h3:LA K H u e):LA K H (.ref p) (.cons e m .nil) :=
 Dp.tup h (.cons (.tup h2 (.cons h3 (.cons (.int m) .nil))) .nil)
def V9 (K:Qn):Sp:=fun vs H Q _=>∃ i:Int,vs=[.int i]/\∀ v H',SB [] H H'->LA K H' v (Lad.num i)->Q v H'
def Ah (K:Qn):Sp:=fun vs H Q _=>∃ (v u:V) (l k:Lad),vs=[v,u]/\LA K H v l/\LA K H u k/\l.deep<=45/\Q (.bl (l.lt k)) H
end
namespace Lad
def ps:Lad->List (Lad × Int)
 | .nil=>[]
 | .cons e m r=>(e,m)::r.ps
def ofPs:List (Lad × Int)->Lad
 | []=>.nil
 | (e,m)::r=>.cons e m (ofPs r)
def aG (p:Lad × Int):PyData:=.tuple [p.1.enc,.int p.2]
theorem aD:∀ l:Lad,ofPs l.ps=l
 | .nil=>rfl
 | .cons e m r=>by show cons e m (ofPs r.ps)=_; rw [aD r]
theorem a9:∀ l:List (Lad × Int),(ofPs l).ps=l
 | []=>rfl
 | (e,m)::r=>by show (e,m)::(ofPs r).ps=_; rw [a9 r]
theorem dX:∀ l:Lad,l.encs=l.ps.map aG
 | .nil=>rfl
 | .cons e m r=>by show _::r.encs=aG (e,m)::r.ps.map aG; rw [dX r]; rfl
theorem cE (l:Lad):l.ps.length=l.len:=by rw [<- kX,dX,Ye]
theorem bA:∀ (l:Lad) (p:Lad × Int),p ∈ l.ps->p.1.parts < l.parts
 | .nil,_,h=>by simp [ps] at h
 | .cons e m r,p,h=>by
  rcases Qv h with h | h
  ·subst h; show e.parts < 1+e.parts+r.parts; omega
  ·have:=bA r p h; show p.1.parts < 1+e.parts+r.parts; omega
theorem aA:∀ (l:Lad) (p:Lad × Int),p ∈ l.ps->p.1.deep < l.deep
 | .nil,_,h=>by simp [ps] at h
 | .cons e m r,p,h=>by
  rcases Qv h with h | h
  ·subst h; show e.deep < max (1+e.deep) r.deep; omega
  ·have:=aA r p h; show p.1.deep < max (1+e.deep) r.deep; omega
end Lad
section
variable {P:Program} {w:World} {K:Qn} {mg:Str->Option Value} {base:Heap} {f:Addr} {fd:FuncData}
theorem sU {p:Lad × Int} (h:Dp K H v (Lad.aG p)):∃ a u,v=.ref a/\SqT K H a [u,.int p.2]/\LA K H u p.1:=by
 have h':Dp K H v (.tuple [p.1.enc,.int p.2]):=h;cases h' with
 | tup hs ha =>
  cases ha with
  | cons a1 a2 =>
   cases a2 with
   | cons b1 b2 =>
    cases b2;cases b1;exact ⟨_,_,Ja,hs,a1⟩
abbrev zj5 (K:Qn):TG:=gTup K 2 (gCons (gName 1) (gCons (gName 2) gNil))
end
def nY:PyData->PyData
 | .tuple (e::_)=>e
 | _=>.none
mutual
def ladD:PyData->Bool
 | .tuple ds=>UM ds&&HY (ds.map nY).reverse
 | _=>false
def UM:List PyData->Bool
 | []=>true
 | d::ds=>Rn d&&UM ds
def Rn:PyData->Bool
 | .tuple ds=>zj9 ds
 | _=>false
def zj9:List PyData->Bool
 | []=>false
 | e::r=>ladD e&&sT r
def sT:List PyData->Bool
 | []=>false
 | m::r=>qJ m&&r.isEmpty
end
theorem Xw {ds:List PyData} (h:ds[i]?=some d):d.depth<=PyData.depthAll ds:=PyData.depth_le_depthAll ds d (Qu h)
section
variable {P:Program} {w:World} {K:Qn} {mg:Str->Option Value} {base:Heap} {f:Addr} {fd:FuncData} {ps:List Addr}
mutual
def wide:PyData->Nat
 | .tuple ds=>max ds.length (tj ds)
 | _=>0
def tj:List PyData->Nat
 | []=>0
 | d::ds=>max (wide d) (tj ds)
end
theorem PV:∀ (ds:List PyData) (d:PyData),d ∈ ds->wide d<=tj ds
 | [],_,h=>by simp at h
 | e::ds,d,h=>by
  rw [tj];rcases Qv h with h | h
  ·subst h; omega
  ·have:=PV ds d h; omega
theorem Qq (ds:List PyData):wide (.tuple ds)=max ds.length (tj ds):=by rw [wide]
end
section
variable {K:Qn} {H:Hp}
theorem DpAll.append:∀ {xs ys:List V} {ds es:List PyData},DpAll K H xs ds->DpAll K H ys es->DpAll K H (xs++ys) (ds++es)
 | _,_,_,_,.nil,h=>h
 | _,_,_,_,.cons a b,h=>.cons a (DpAll.append b h)
end
theorem ib (m m':Int):(m == m')=decide (m=m'):=by by_cases h:m=m' <;> simp [h]
theorem Lad.uN:∀ l k:Lad,PyData.eqvAll l.encs k.encs=decide (l=k)
 | .nil,.nil=>by simp [encs,PyData.eqvAll]
 | .nil,.cons _ _ _=>by simp [encs,PyData.eqvAll]
 | .cons _ _ _,.nil=>by simp [encs,PyData.eqvAll]
 | .cons e m r,.cons e' m' r'=>by
  have h1:=Lad.uN e e';have h2:=Lad.uN r r';simp [encs,PyData.eqvAll,PyData.eqv,h1,h2,Bool.and_assoc,ib]
theorem Lad.bw (l k:Lad):PyData.eqv l.enc k.enc=decide (l=k):=by
 rw [Lad.enc,Lad.enc,PyData.eqv]; exact Lad.uN l k
theorem Lad.lt_nil_nil:Lad.lt .nil .nil=false:=by decide +kernel
theorem Lad.lt_nil_cons (e:Lad) (m:Int) (r:Lad):Lad.lt .nil (.cons e m r)=true:=by
 unfold Lad.lt Lad.enc;rw [dataLt_tuple,Lad.encs,Lad.encs,toks_all_cons,show keyToksAll []=[.inl 0] by simp [keyToksAll],lex_atom (by simp),lex_one]
 decide +kernel
theorem Lad.lt_cons_nil (e:Lad) (m:Int) (r:Lad):Lad.lt (.cons e m r) .nil=false:=by
 unfold Lad.lt Lad.enc;rw [dataLt_tuple,Lad.encs,Lad.encs,toks_all_cons,show keyToksAll []=[.inl 0] by simp [keyToksAll],lex_atom (by simp),lex_one]
 decide +kernel
theorem Lad.dV (e e':Lad) (m m':Int) (r r':Lad):Lad.lt (.cons e m r) (.cons e' m' r')=if e=e' then (if m=m' then r.lt r' else decide (m < m')) else e.lt e':=by
 have al:alike (.tuple [e.enc,.int m]) (.tuple [e'.enc,.int m'])=true:=by simp [alike,alikeAll,e.dN e']
 have h1:Lad.lt (.cons e m r) (.cons e' m' r')=if PyData.eqv (.tuple [e.enc,.int m]) (.tuple [e'.enc,.int m'])=true then r.lt r' else dataLt (.tuple [e.enc,.int m]) (.tuple [e'.enc,.int m']):=by
  unfold Lad.lt;rw [show (Lad.cons e m r).enc=.tuple (.tuple [e.enc,.int m]::r.encs) from rfl,show (Lad.cons e' m' r').enc=.tuple (.tuple [e'.enc,.int m']::r'.encs) from rfl,dataLt_tuple,dataLt_cons al];rw [show dataLt r.enc r'.enc=PyProof.Rows.lexLt itemOrd (keyToksAll r.encs) (keyToksAll r'.encs) from dataLt_tuple _ _]
 have h2:PyData.eqv (.tuple [e.enc,.int m]) (.tuple [e'.enc,.int m'])=(decide (e=e')&&decide (m=m')):=by
  simp [PyData.eqv,PyData.eqvAll,Lad.bw,ib]
 rw [h1,h2,dataLt_pair (e.dN e') (by simp [alike]),Lad.bw];by_cases he:e=e'
 ·by_cases hm:m=m'
  ·simp [he,hm]
  ·simp [he,hm,PyData.eqv,dataLt_int]
 ·simp [he,Lad.lt]
namespace Lad
theorem lt_irrefl:∀ l:Lad,l.lt l=false
 | .nil=>lt_nil_nil
 | .cons e m r=>by rw [dV,if_pos rfl,if_pos rfl]; exact lt_irrefl r
theorem bR:∀ l:Lad,l.lt .nil=false
 | .nil=>lt_nil_nil
 | .cons e m r=>lt_cons_nil e m r
theorem c6 {l k:Lad} (h:l.lt k=true):l ≠ k:=fun z=>by subst z; rw [lt_irrefl] at h; cases h
theorem eI:∀ l k:Lad,l ≠ k->l.lt k=false->k.lt l=true
 | .nil,.nil,h,_=>absurd rfl h
 | .nil,.cons e m r,_,h=>by rw [lt_nil_cons] at h; cases h
 | .cons e m r,.nil,_,_=>lt_nil_cons e m r
 | .cons e m r,.cons e' m' r',sh,h=>by
  rw [dV] at h ⊢;by_cases he:e=e'
  ·subst he;rw [if_pos rfl] at h ⊢;by_cases hm:m=m'
   ·subst hm;rw [if_pos rfl] at h ⊢;exact eI r r' (fun z=>sh (by rw [z])) h
   ·rw [if_neg hm] at h;rw [if_neg (fun z=>hm z.symm)];have:=of_decide_eq_false h;exact Ya (by omega)
  ·rw [if_neg he] at h;rw [if_neg (fun z=>he z.symm)];exact eI e e' he h
theorem lt_trans:∀ l k j:Lad,l.lt k=true->k.lt j=true->l.lt j=true
 | _,_,.nil,_,h=>by rw [bR] at h; cases h
 | _,.nil,.cons _ _ _,h,_=>by rw [bR] at h; cases h
 | .nil,.cons _ _ _,.cons e m r,_,_=>lt_nil_cons e m r
 | .cons e m r,.cons e' m' r',.cons e'' m'' r'',h1,h2=>by
  rw [dV] at h1 h2 ⊢;by_cases he:e=e'
  ·subst he;rw [if_pos rfl] at h1;by_cases vN:e=e''
   ·subst vN;rw [if_pos rfl] at h2 ⊢;by_cases hm:m=m'
    ·subst hm;rw [if_pos rfl] at h1;by_cases si:m=m''
     ·subst si;rw [if_pos rfl] at h2 ⊢;exact lt_trans r r' r'' h1 h2
     ·rw [if_neg si] at h2 ⊢;exact h2
    ·rw [if_neg hm] at h1;have a1:=Ks h1;by_cases si:m'=m''
     ·subst si;rw [if_neg hm];exact h1
     ·rw [if_neg si] at h2;have a2:=Ks h2;rw [if_neg (by omega)];exact Ya (by omega)
   ·rw [if_neg vN] at h2 ⊢;exact h2
  ·rw [if_neg he] at h1;by_cases vN:e'=e''
   ·subst vN;rw [if_neg he];exact h1
   ·rw [if_neg vN] at h2;have h3:=lt_trans e e' e'' h1 h2;rw [if_neg (c6 h3)];exact h3
theorem lt_asymm {l k:Lad} (h:l.lt k=true):k.lt l=false:=by
 cases e:k.lt l with
 | false=>rfl
 | true =>
  have:=lt_trans l k l h e;rw [lt_irrefl] at this;cases this
def Ok (B:Int):Lad->Prop
 | .nil=>True
 | .cons e m r=>e.Ok B/\1<=m/\m < B/\r.Ok B/\∀ p ∈ r.ps,p.1.lt e=true
theorem Ok.mono {B C:Int} (h:B<=C):∀ {l:Lad},l.Ok B->l.Ok C
 | .nil,_=>trivial
 | .cons e m r,⟨h1,h2,h3,h4,h5⟩=>⟨Ok.mono h h1,h2,by omega,Ok.mono h h4,h5⟩
theorem fe {B:Int}:∀ {ps:List (Lad × Int)},(ofPs ps).Ok B ↔ (∀ p ∈ ps,p.1.Ok B/\1<=p.2/\p.2 < B)/\ps.Pairwise (fun p q=>q.1.lt p.1=true)
 | []=>by simp [ofPs,Ok]
 | (e,m)::r=>by
  have ih:=fe (B:=B) (ps:=r);show (e.Ok B/\1<=m/\m < B/\(ofPs r).Ok B/\∀ p ∈ (ofPs r).ps,p.1.lt e=true) ↔ _;rw [a9,List.pairwise_cons,ih];constructor
  ·rintro ⟨h1,h2,h3,⟨h4,h5⟩,h6⟩
   refine ⟨fun p hp=>?_,h6,h5⟩;rcases Qv hp with hp | hp
   ·subst hp; exact ⟨h1,h2,h3⟩
   ·exact h4 p hp
  ·rintro ⟨h1,h2,h3⟩
   have h4:=h1 (e,m) (bF ..);exact ⟨h4.1,h4.2.1,h4.2.2,⟨fun p hp=>h1 p (bX _ hp),h3⟩,h2⟩
theorem aS {l:Lad}:l.Ok B ↔ (∀ p ∈ l.ps,p.1.Ok B/\1<=p.2/\p.2 < B)/\l.ps.Pairwise (fun p q=>q.1.lt p.1=true):=by
 have:=fe (B:=B) (ps:=l.ps);rw [aD] at this;exact this
end Lad
section
variable {P:Program} {w:World} {K:Qn} {mg:Str->Option Value} {base:Heap} {f:Addr} {fd:FuncData}
def spLaw (K:Qn):Sp:=fun vs H Q _=>∃ (a:Addr) (ns:List Int),vs=[.ref a]/\SqL K H a (ns.map V.int)/\ns.length<=63/\∀ H',Q (.bl true) H'
theorem BM {ps:List Str} {sp:Sp} (no:∀ vs H Q E,¬ sp vs H Q E):FnOk P w K mg base CX0 k f fd ps sp :=
 ⟨fun vs H Q E h=>absurd h (no vs H Q E),fun A outer s H args us vs Q E _ _ _ _ h=>absurd h (no vs H Q E)⟩
end
namespace Lad
theorem mw:∀ l:Lad,PyData.canLayAll0 l.encs=true
 | .nil=>by simp [encs,PyData.canLayAll0]
 | .cons e m r=>by simp [encs,PyData.canLayAll0,PyData.canLay0,mw e,mw r]
theorem bL {l:Lad} (h:l.deep<=31):SeqAt.shaped l.enc=true:=by
 have:=l.eM;unfold SeqAt.shaped;rw [show l.enc.canLay0=true by rw [enc,PyData.canLay0]; exact mw l];simp; omega
theorem uf (p q:Lad × Int):alike (aG p) (aG q)=true:=by simp [aG,alike,alikeAll,p.1.dN q.1]
theorem aM (p:Lad × Int):gH (aG p)=true:=by simp [aG,gH,ki,Lad.ag]
theorem eH (p:Lad × Int):(aG p).depth<=2*p.1.deep+2:=by
 have:=p.1.eM;simp only [aG,PyData.depth,PyData.depthAll]; omega
theorem jO (bs:List (Lad × Int)):AllAlike (bs.map aG):=AllAlike.of uf
theorem eV (bs:List (Lad × Int)):Sortable (bs.map aG):=Sortable.tuples fun b=>⟨_,_,rfl⟩
theorem Q7 (p q:Lad × Int):dataLt (aG p) (aG q)=if p.1=q.1 then decide (p.2 < q.2) else p.1.lt q.1:=by
 unfold aG;rw [dataLt_pair (p.1.dN q.1) (by simp [alike]),Lad.bw];by_cases h:p.1=q.1
 ·rw [if_pos (by simp [h]),if_pos h,dataLt_int];by_cases h2:p.2=q.2
  ·simp [PyData.eqv,h2]
  ·simp [PyData.eqv,h2]
 ·rw [if_neg (by simp [h]),if_neg h]; rfl
def tot:List (Lad × Int)->Nat
 | []=>0
 | p::r=>1+p.1.parts+tot r
theorem aK:∀ bs:List (Lad × Int),(ofPs bs).parts=tot bs
 | []=>rfl
 | (e,m)::r=>by show 1+e.parts+(ofPs r).parts=1+e.parts+tot r; rw [aK r]
theorem aU:∀ bs cs:List (Lad × Int),tot (bs++cs)=tot bs+tot cs
 | [],cs=>by simp [tot]
 | p::r,cs=>by show 1+p.1.parts+tot (r++cs)=_; rw [aU r cs,tot]; omega
theorem jc (f:Lad × Int->Bool):∀ bs:List (Lad × Int),tot (bs.filter f)<=tot bs
 | []=>by simp [tot]
 | p::r=>by
  have:=jc f r;rw [List.filter_cons]
  split
  ·show 1+p.1.parts+tot (r.filter f)<=1+p.1.parts+tot r; omega
  ·show tot (r.filter f)<=1+p.1.parts+tot r; omega
theorem jE {bs cs:List (Lad × Int)} (h:bs.Perm cs):tot bs=tot cs:=by
 induction h with
 | nil=>rfl
 | cons x _ ih=>simp only [tot]; omega
 | swap x y l=>simp only [tot]; omega
 | trans _ _ h1 h2=>omega
theorem eP {n:Nat}:∀ {bs:List (Lad × Int)},(∀ b ∈ bs,b.1.deep < n)->(ofPs bs).deep<=n
 | [],_=>Nat.zero_le _
 | (e,m)::r,h=>by
  have h1:=eP (bs:=r) fun b hb=>h b (bX _ hb);have h2:e.deep < n:=h (e,m) (bF ..);show max (1+e.deep) (ofPs r).deep<=n;omega
end Lad
theorem BP {bs:List (Lad × Int)} (h:SqT K H a xs) (hb:Bears K H Lad.aG xs bs):LA K H (.ref a) (Lad.ofPs bs):=by
 refine Dp.tup h ?_;rw [Lad.dX,Lad.a9];exact hb.dp
theorem n4 {l:Lad} (h:LA K H v l):∃ a xs,v=.ref a/\SqT K H a xs/\Bears K H Lad.aG xs l.ps:=by
 obtain ⟨a,xs,rfl,hs,ha⟩:=h.tup;rw [Lad.dX] at ha;exact ⟨a,xs,Ja,hs,Bears.of ha⟩
def U5 (K:Qn):R2:=fun x y H Q=>∃ a b xs ys,x=.ref a/\y=.ref b/\SqT K H a xs/\SqT K H b ys/\xs.length+ys.length<=10000000/\∀ c H',SB [] H H'->SqT K H' c (xs++ys)->Q (.ref c) H'
def rSlB (K:Qn):V->Option Int->Option Int->Hp->VK->Prop:=fun x lo hi H Q=>∃ a xs,x=.ref a/\SqT K H a xs/\∀ c H',SB [] H H'->SqT K H' c (cutV xs lo hi)->Q (.ref c) H'
section
variable {X:Cx}
theorem Aj:OpR X (binaryOp .Add) (U5 X.K):=by
 intro pins s σ H x y v u Q I rx ry h;obtain ⟨a,b,xs,ys,rfl,rfl,ha,hb,hz,q⟩:=h;refine op_catA pins s σ H _ _ v u Q I rx ry ⟨a,b,xs,ys,Ja,Ja,ha,hb,by rw [sizeLine_eq]; omega,fun e=>?_,fun e1 e2=>?_,fun e1 e2 p hp=>?_⟩
 ·subst e; exact q b H SB.refl hb
 ·subst e2; exact q a H SB.refl (by rw [List.append_nil]; exact ha)
 ·exact q p _ (SB.new hp _) (SqT.of Qt)
theorem FF:SlR X (rSlB X.K):=by
 intro pins s σ H x v vl vu lo hi sl Q I rx hs pl pu h;obtain ⟨a,xs,rfl,hx,q⟩:=h;refine sl_tupA pins s σ H _ v vl vu lo hi sl Q I rx hs pl pu ⟨a,xs,Ja,hx,fun e=>?_,fun e p hp=>?_⟩
 ·refine q a H SB.refl ?_;have:cutV xs lo hi=xs:=by
   unfold cutV;rw [e.1,e.2];simp
  rw [this]; exact hx
 ·exact q p _ (SB.new hp _) (SqT.of Qt)
end
theorem zf5 (xs:List V) (k:Nat):cutV xs none (some (k:Int))=xs.take k:=by
 unfold cutV;have h1:HT.sIx xs.length 0 none=0:=rfl;have h2:HT.sIx xs.length xs.length (some (k:Int))=min k xs.length:=HT.sIx_nat xs.length xs.length k;rw [h1,h2];simp
theorem Pf (xs:List V) (k:Nat):cutV xs (some (k:Int)) none=xs.drop k:=by
 unfold cutV;have h1:HT.sIx xs.length 0 (some (k:Int))=min k xs.length:=HT.sIx_nat xs.length 0 k;have h2:HT.sIx xs.length xs.length none=xs.length:=rfl;rw [h1,h2];by_cases h:k<=xs.length
 ·rw [Nat.min_eq_left h,List.take_of_length_le (by rw [List.length_drop]; omega)]
 ·rw [Nat.min_eq_right (by omega),List.drop_eq_nil_of_le (Yc _),List.drop_eq_nil_of_le (by omega)];simp
namespace Lad
def aB (ps:List (Lad × Int)) (e:Lad):Int:=((ps.filter fun p=>decide (p.1=e)).map (·.2)).sum
def cL (l k:Lad):Lad:=match k.ps with
 | []=>l
 | (e,m)::r=>ofPs (l.ps.filter (fun p=>e.lt p.1)++(e,aB l.ps e+m)::r)
theorem dj (l:Lad):cL l .nil=l:=rfl
theorem cN (l e:Lad) (m:Int) (r:Lad):cL l (.cons e m r)=ofPs (l.ps.filter (fun p=>e.lt p.1)++(e,aB l.ps e+m)::r.ps):=rfl
end Lad
def Pw (K:Qn):Sp:=fun vs H Q _=>∃ (v u:V) (l e:Lad),vs=[v,u]/\LA K H v l/\LA K H u e/\l.deep<=30/\e.deep<=30/\l.parts<=1000000/\∀ H',SB [] H H'->Q (.int (Lad.aB l.ps e)) H'
def Ik (K:Qn):Sp:=fun vs H Q _=>∃ (v u:V) (l k:Lad),vs=[v,u]/\LA K H v l/\LA K H u k/\l.deep<=30/\k.deep<=30/\l.parts<=900000/\k.parts<=900000/\∀ (x:V) (H':Hp),SB [] H H'->LA K H' x (l.cL k)->Q x H'
namespace Lad
theorem cj {l:Lad} (h:l.deep<=n):∀ p ∈ l.ps,p.1.deep < n:=fun p hp=>Nat.lt_of_lt_of_le (aA l p hp) h
end Lad
namespace Lad
theorem gD (l k:Lad):(cL l k).parts<=l.parts+k.parts:=by
 cases k with
 | nil=>rw [dj]; omega
 | cons e m r =>
  rw [cN,aK,aU];have h1:l.parts=tot l.ps:=by rw [<- aK,aD]
  have h2:=jc (fun p=>e.lt p.1) l.ps;have h3:r.parts=tot r.ps:=by rw [<- aK,aD]
  simp only [tot,Lad.parts];omega
theorem iG {l k:Lad} (hl:l.deep<=n) (hk:k.deep<=n):(cL l k).deep<=n:=by
 cases k with
 | nil=>rw [dj]; exact hl
 | cons e m r =>
  rw [cN];refine eP fun b hb=>?_;rcases Qw hb with hb | hb
  ·exact cj hl b (List.mem_filter.mp hb).1
  ·rcases Qv hb with hb | hb
   ·subst hb; exact cj hk (e,m) (bF ..)
   ·exact cj hk b (bX _ hb)
theorem AK (k:Lad):cL .nil k=k:=by
 cases k with
 | nil=>rfl
 | cons e m r =>
  rw [cN];show ofPs ([]++(e,aB [] e+m)::r.ps)=_;have:aB [] e+m=m:=by simp [aB]
  rw [this];show cons e m (ofPs r.ps)=_;rw [aD]
end Lad
namespace Lad
theorem IY (p q:Lad × Int) (r s:List (Lad × Int)):(ofPs (p::r)).lt (ofPs (q::s))=if p.1=q.1 then (if p.2=q.2 then (ofPs r).lt (ofPs s) else decide (p.2 < q.2)) else p.1.lt q.1:=dV _ _ _ _ _ _
theorem AM {l o:Lad} {p q:Lad × Int} (hp:l.ps[k]?=some p) (hq:o.ps[k]?=some q):(ofPs (l.ps.drop k)).lt (ofPs (o.ps.drop k))=if p.1=q.1 then (if p.2=q.2 then (ofPs (l.ps.drop (k+1))).lt (ofPs (o.ps.drop (k+1))) else decide (p.2 < q.2)) else p.1.lt q.1:=by
 have h1:k < l.ps.length:=(Kq hp).1;have h2:k < o.ps.length:=(Kq hq).1;have e1:l.ps[k]=p:=(Kq hp).2;have e2:o.ps[k]=q:=(Kq hq).2;rw [List.drop_eq_getElem_cons h1,List.drop_eq_getElem_cons h2,e1,e2,IY]
theorem DK {l o:Lad} (hk:k<=l.ps.length) (vM:k<=o.ps.length) (h:¬ (k < l.ps.length/\k < o.ps.length)):(ofPs (l.ps.drop k)).lt (ofPs (o.ps.drop k))=(decide (k=l.ps.length)&&decide (k < o.ps.length)):=by
 by_cases h1:k=l.ps.length
 ·rw [List.drop_eq_nil_of_le (show l.ps.length<=k by omega)];by_cases h2:k < o.ps.length
  ·rw [List.drop_eq_getElem_cons h2];show Lad.lt .nil (.cons _ _ _)=_;rw [lt_nil_cons]; simp [h1]; omega
  ·rw [List.drop_eq_nil_of_le (by omega)];show Lad.lt .nil .nil=_;rw [lt_nil_nil]; simp; intro _; omega
 ·have h2:¬ k < o.ps.length:=by omega
  rw [List.drop_eq_nil_of_le (as:=o.ps) (by omega)];show Lad.lt _ .nil=_;rw [bR]; simp [h1]
end Lad
theorem Bears.at {K:Qn} {H:Hp} {β:Type} {enc:β->PyData}:∀ {vs:List V} {bs:List β} {i:Nat} {b:β},Bears K H enc vs bs->bs[i]?=some b->∃ v,vs[i]?=some v/\Dp K H v (enc b)
 | _,_,_,_,.nil,e=>by simp at e
 | _,_,0,_,.cons h t,e=>by simp at e; subst e; exact ⟨_,Ja,h⟩
 | _,_,i+1,b,.cons h t,e=>by
  obtain ⟨d,h1,h2⟩:=Bears.at (i:=i) (b:=b) t (by simpa using e);exact ⟨d,by simpa using h1,h2⟩
namespace Lad
theorem le_trans {a b c:Lad} (h1:b.lt a=false) (h2:c.lt b=false):c.lt a=false:=by
 cases e:c.lt a with
 | false=>rfl
 | true =>
  by_cases jr:a=b
  ·subst jr; rw [e] at h2; cases h2
  ·have h3:a.lt b=true:=eI b a (fun z=>jr z.symm) h1;have h4:=lt_trans c a b e h3;rw [h4] at h2; cases h2
theorem le_of_lt {a b:Lad} (h:a.lt b=true):b.lt a=false:=lt_asymm h
end Lad
section
variable {prog:Program} {w:World} {A:Around} {E:Value->Shared->Prop} {s:Shared} {β:Type} {vs:List Value} {bs:List β} {enc:β->PyData} {R:Value->β->Prop}
theorem Xr {kw:List (Str × Value)} {b:Bool} {Q:Value->Shared->Prop} (xH:∀ a,Builtin.«list.sort» ⟨[.ref a],kw⟩=Builtin.«list.sort» ⟨[.ref a],[(Str.ofString "reverse",.bool b)]⟩) (sr:argsOk "sorted" ⟨[.ref t],kw⟩) (xM:∀ x,argsOk "list.sort" ⟨[.ref x],kw⟩)
  (ht:IsTup s.heap t vs.toArray) (e:EachIs R vs bs) (er:EachIs (fun v b=>∃ as,Reads s.heap v (enc b) as) vs bs) (nV:AllAlike (bs.map enc)) (hk:Sortable (bs.map enc)) (hL:bs.length<=sizeLine)
  (hu:∀ b,b ∈ bs->A.units+2+(enc b).depth < cLine)
  (h:∀ (out:List Value) (h' h2:Heap) (n:Nat),(∀ b o,s.heap.get? b=some o->h'.get? b=some o)->(∀ b o,h'.get? b=some o->h2.get? b=some o)->h2.get? h'.objs.size=some (seqObj "list" out.toArray n)->out.length=bs.length->EachIs R out (bs.mergeSort (dataLe b enc))->Q (.ref h'.objs.size) { s with heap:=h2 }) :
  wpAny (model prog w) A (call (.builtin "sorted") [.ref t] kw) Q E s:=by
 have hlen:vs.length<=sizeLine:=by rw [e.length]; exact hL
 obtain ⟨o,ho,hc,n0,hd⟩:=id ht;refine call_function_entry_kw kind_sorted plain_sorted entry_sorted sr ?_;unfold Builtin.«sorted»;refine wpAny_bind (m:=checkCount "sorted" 1 1 _) (wpAny_pure ?_);refine Ke (wpAny_collect_seq t (.inr rfl) ho hc hd (fun h' xI=>?_) (by rw [List.size_toArray]; exact hlen));refine Ke (wpAny_newList ?_ hlen);show wpAny _ _ _ _ _ { s with heap:=h'.push (seqObj "list" vs.toArray 0) };have tc:(h'.push (seqObj "list" vs.toArray 0)).get? h'.objs.size=some (seqObj "list" vs.toArray 0):=Heap.get?_push_size _ rfl;refine Ke (wpAny_holding (wpAny_call_entry_kw slot_list_sort ⟨_,tc,Ja⟩ entry_list_sort ?body (xM _)))
 case body =>
  rw [xH];have old:∀ b o,h'.get? b=some o->(sortingHeap (h'.push (seqObj "list" vs.toArray 0)) h'.objs.size vs).get? b=some o:=fun b o q=>sortingHeap_old (Nat.ne_of_lt (Heap.lt_size q)) (Heap.get?_push_of_some _ q);have Ag:EachIs (fun v b=>∃ as,Reads (sortingHeap (h'.push (seqObj "list" vs.toArray 0)) h'.objs.size vs) v (enc b) as) vs bs:=er.mono fun _ _ ⟨as,r⟩=>⟨as,PyProof.Rows.Reads.keeps (fun b o q=>old b o (xI b o q)) r⟩;refine list_sort_rev_vals (s:={ s with heap:=h'.push (seqObj "list" vs.toArray 0) }) (κ:=dataKind (sortingHeap (h'.push (seqObj "list" vs.toArray 0)) h'.objs.size vs) (bs.map enc)) tc (SortsAt.data (s:={ s with heap:=sortingHeap (h'.push (seqObj "list" vs.toArray 0)) h'.objs.size vs }) (each_map (R:=fun v d=>∃ as,Reads (sortingHeap (h'.push (seqObj "list" vs.toArray 0)) h'.objs.size vs) v d as) enc Ag) nV hk (bound_map hu)) hlen ?_;refine ⟨_,Ja,wpAny_pure ⟨_,Ja,?_⟩⟩;obtain ⟨n2,uF⟩:=sortedHeap_at (out:=(sortVals (dataKind (sortingHeap (h'.push (seqObj "list" vs.toArray 0)) h'.objs.size vs) (bs.map enc)) b vs vs).toArray) tc;refine h _ h' _ n2 xI (fun b o q=>?_) uF (by rw [sortVals_length b rfl]; exact e.length) (sortVals_data b e Ag nV);rw [sortedHeap_old (Nat.ne_of_lt (Heap.lt_size q)) (by rw [size_push']; exact Nat.lt_succ_of_lt (Heap.lt_size q))];exact Heap.get?_push_of_some _ q
end
def Ws (K:Qn) {β:Type} (enc:β->PyData) (b:Bool) (vs:List V) (H:Hp) (Q:VK):Prop:=∃ (a:Addr) (xs:List V) (bs:List β),vs=[V.ref a]/\SqT K H a xs/\Bears K H enc xs bs/\AllAlike (bs.map enc)/\Sortable (bs.map enc)/\bs.length<=10000000/\(∀ b ∈ bs,(enc b).depth<=100) /\
 ∀ (p:Addr) (ys:List V),H p=none->Bears K H enc ys (bs.mergeSort (dataLe b enc))->Q (.ref p) (upd H p (.lst ys))
section
variable {X:Cx}
theorem z9y {β:Type} {enc:β->PyData} {b:Bool} {kw:List (Str × Value)} (hu:X.A.units+110 < cLine) (xH:∀ a,Builtin.«list.sort» ⟨[.ref a],kw⟩=Builtin.«list.sort» ⟨[.ref a],[(Str.ofString "reverse",.bool b)]⟩) (sr:∀ t,argsOk "sorted" ⟨[.ref t],kw⟩) (xM:∀ x,argsOk "list.sort" ⟨[.ref x],kw⟩)
  {pins:List (Addr × Obj)} {s:Shared} {σ:L2.St} {H:Hp} {vs:List V} {us:List Value} {Q:VK} (I:Inv X pins σ H s) (r:Vals vs us) (h:Ws X.K enc b vs H Q):wpAny (model X.prog X.w) X.A (call (.builtin "sorted") us kw) (EP X pins σ Q) X.xe s:=by
 obtain ⟨a,xs,bs,rfl,hs,hb,nV,F5,hl,hd,q⟩:=h;obtain ⟨cn,rv,D6,_⟩:=I.tuple hs;rw [Vals.ref1 r];obtain ⟨e1,e2⟩:=FD I hb rv;refine Xr (vs:=cn) (bs:=bs) (enc:=enc) (R:=fun u b=>∃ v,RelV v u/\Dp X.K H v (enc b)) xH (sr _) xM D6 e1 e2 nV F5 (by rw [sizeLine_eq]; omega) (fun b m=>by have:=hd b m; omega) fun out h' h2 n k1 k2 tc ho h1=>?_;obtain ⟨ys,g2,g3⟩:=Ie h1;have I':Inv X pins σ H { s with heap:=h' }:=I.kept (t':=s.toks) k1;have hlen:ys.length<=sizeLine:=by rw [g2.length,ho,sizeLine_eq]; omega
 exact ⟨.ref _,upd H h'.objs.size (.lst ys),I'.laid (t':=s.toks) (fun b o e=>k2 b o e) (Yc _) ⟨hlen,out,n,g2,tc⟩,Ja,q _ ys (I'.hok.fresh (Yc _)) g3⟩
theorem zbk {β:Type} (enc:β->PyData) (hu:X.A.units+110 < cLine):CallR X (.builtin "sorted") (Ws X.K enc false):=by
 intro pins s σ H vs us Q I r h;exact z9y (kw:=[]) hu plain_is_rev (fun _=>args_sorted1 _) (fun _=>args_list_sort _) I r h
end
section
variable {γ:Type} [DecidableEq γ]
def kR (enc:γ->PyData) (p:γ × Int):PyData:=.tuple [enc p.1,.int p.2]
def fb (acc:List (γ × Int)) (p:γ × Int):List (γ × Int):=match acc.getLast? with
 | some q=>if q.1=p.1 then acc.dropLast++[(p.1,q.2+p.2)] else acc++[p]
 | none=>[p]
def jn (bs:List (γ × Int)):List (γ × Int):=bs.foldl fb []
theorem xR (p:γ × Int):fb [] p=[p]:=rfl
theorem pA (acc:List (γ × Int)) (q p:γ × Int):fb (acc++[q]) p=if q.1=p.1 then acc++[(p.1,q.2+p.2)] else acc++[q]++[p]:=by
 unfold fb;rw [List.getLast?_append];simp
theorem z9v (acc:List (γ × Int)) (p:γ × Int):(fb acc p).length<=acc.length+1:=by
 rcases List.eq_nil_or_concat acc with h | ⟨a,q,h⟩
 ·subst h; simp [fb]
 ·subst h;rw [List.concat_eq_append,pA]
  split <;> simp
theorem O9 (bs:List (γ × Int)) (i:Nat) (p:γ × Int) (h:bs[i]?=some p):jn (bs.take (i+1))=fb (jn (bs.take i)) p:=by
 unfold jn;rw [Yg,h,List.foldl_append]
 rfl
theorem NY (bs:List (γ × Int)):(jn bs).length<=bs.length:=by
 have key:∀ (bs acc:List (γ × Int)),(bs.foldl fb acc).length<=acc.length+bs.length:=by
  intro bs
  induction bs with
  | nil=>intro acc; simp
  | cons p r ih =>
   intro acc;have h1:=ih (fb acc p);have h2:=z9v acc p;show (r.foldl fb (fb acc p)).length<=_;rw [Yk];omega
 have:=key bs [];simpa [jn] using this
theorem BL (bs:List (γ × Int)):∀ p ∈ jn bs,∃ q ∈ bs,q.1=p.1:=by
 have key:∀ (bs acc:List (γ × Int)),∀ p ∈ bs.foldl fb acc,(∃ q ∈ acc,q.1=p.1)\/∃ q ∈ bs,q.1=p.1:=by
  intro bs
  induction bs with
  | nil=>intro acc p hp; exact .inl ⟨p,hp,Ja⟩
  | cons x r ih =>
   intro acc p hp;rcases ih (fb acc x) p hp with ⟨q,hq,e⟩ | ⟨q,hq,e⟩
   ·rcases List.eq_nil_or_concat acc with h | ⟨a,z,h⟩
    ·subst h;rw [xR] at hq;have:q=x:=by simpa using hq
     subst this;exact .inr ⟨q,bF ..,e⟩
    ·subst h;rw [List.concat_eq_append] at hq ⊢;rw [pA] at hq;by_cases hz:z.1=x.1
     ·rw [if_pos hz] at hq;rcases Qw hq with hq | hq
      ·exact .inl ⟨q,i8 _ hq,e⟩
      ·have:q=(x.1,z.2+x.2):=by simpa using hq
       subst this;exact .inr ⟨x,bF ..,e⟩
     ·rw [if_neg hz] at hq;rcases Qw hq with hq | hq
      ·exact .inl ⟨q,hq,e⟩
      ·have:q=x:=by simpa using hq
       subst this;exact .inr ⟨q,bF ..,e⟩
   ·exact .inr ⟨q,bX _ hq,e⟩
 intro p hp;rcases key bs [] p hp with ⟨q,hq,_⟩ | h
 ·cases hq
 ·exact h
theorem ziz {bs:List (γ × Int)} (h:bs.Pairwise (fun a b=>a.1 ≠ b.1)):jn bs=bs:=by
 have key:∀ (bs acc:List (γ × Int)),(acc++bs).Pairwise (fun a b=>a.1 ≠ b.1)->bs.foldl fb acc=acc++bs:=by
  intro bs
  induction bs with
  | nil=>intro acc _; simp
  | cons x r ih =>
   intro acc hp;have e:fb acc x=acc++[x]:=by
    rcases List.eq_nil_or_concat acc with h | ⟨a,z,h⟩
    ·subst h; rfl
    ·subst h;rw [List.concat_eq_append] at hp ⊢;rw [pA,if_neg];have h2:=(List.pairwise_append.mp hp).2.2 z (by simp) x (bF ..);exact h2
   show r.foldl fb (fb acc x)=_;rw [e,ih]
   ·simp
   ·simpa using hp
 have:=key bs [] (by simpa using h);simpa [jn] using this
end
def Wz (K:Qn) {γ:Type} [DecidableEq γ] (enc:γ->PyData):Sp:=fun vs H Q _=>∃ (a:Addr) (xs:List V) (bs:List (γ × Int)),vs=[.ref a]/\SqL K H a xs/\Bears K H (kR enc) xs bs/\bs.length<=2000000/\(∀ b ∈ bs,SeqAt.shaped (enc b.1)=true) /\
 ∀ (c:Addr) (ys:List V) (H':Hp),SB [] H H'->SqT K H' c ys->Bears K H' (kR enc) ys (jn bs)->Q (.ref c) H'
theorem NB {γ:Type} {enc:γ->PyData} {p:γ × Int} (h:Dp K H v (kR enc p)):∃ a u,v=.ref a/\SqT K H a [u,.int p.2]/\Dp K H u (enc p.1):=by
 have h':Dp K H v (.tuple [enc p.1,.int p.2]):=h;cases h' with
 | tup hs ha =>
  cases ha with
  | cons a1 a2 =>
   cases a2 with
   | cons b1 b2 =>
    cases b2;cases b1;exact ⟨_,_,Ja,hs,a1⟩
theorem N0 {γ:Type} {enc:γ->PyData} (hn:∀ g,gH (enc g)=true) (p:γ × Int):gH (kR enc p)=true:=by simp [kR,gH,ki,hn]
theorem C9 {γ:Type} {enc:γ->PyData} {g:γ} (h:SqT K H a [u,.int m]) (h2:Dp K H u (enc g)):Dp K H (.ref a) (kR enc (g,m)):=Dp.tup h (.cons h2 (.cons (.int m) .nil))
theorem Bears.snoc {β:Type} {enc:β->PyData} {vs:List V} {bs:List β} {b:β} (h:Bears K H enc vs (bs++[b])):∃ us u,vs=us++[u]/\Bears K H enc us bs/\Dp K H u (enc b):=by
 induction bs generalizing vs with
 | nil =>
  cases h with
  | cons h1 h2=>cases h2; exact ⟨[],_,Ja,.nil,h1⟩
 | cons c r ih =>
  cases h with
  | cons h1 h2 =>
   obtain ⟨us,u,e,h3,h4⟩:=ih h2;exact ⟨_::us,u,by rw [e]; rfl,.cons h1 h3,h4⟩
theorem BN:atI (xs++[x]) (-1)=some x:=by
 unfold atI ixN;rw [if_neg (by decide),if_pos (by rw [Yf,Yi]; omega)];simp only [Yf,Yi,Option.bind_some];have:((-1:Int)+((xs.length+1:Nat):Int)).toNat=xs.length:=by omega
 rw [this];simp
theorem Wl:ixN (xs++[x]).length (-1)=some xs.length:=by
 unfold ixN;rw [if_neg (by decide),if_pos (by rw [Yf,Yi]; omega),Yf,Yi]
 congr 1; omega
theorem WJ {y:V}:(xs++[x]).set xs.length y=xs++[y]:=by simp
namespace Lad
theorem EH {a b:Lad × Int} (h1:dataLt (aG a) (aG b)=false) (h2:dataLt (aG b) (aG a)=false):a=b:=by
 rw [Q7] at h1 h2;by_cases h:a.1=b.1
 ·rw [if_pos h] at h1;rw [if_pos h.symm] at h2;have e1:=of_decide_eq_false h1;have e2:=of_decide_eq_false h2;exact Prod.ext h (by omega)
 ·rw [if_neg h] at h1;rw [if_neg (fun z:b.1=a.1=>h z.symm),eI _ _ h h1] at h2;cases h2
abbrev lF (bs:List (Lad × Int)):List (Lad × Int):=bs.mergeSort (dataLe true aG)
theorem bC (bs:List (Lad × Int)):(lF bs).Perm bs:=List.mergeSort_perm _ _
theorem uO (bs:List (Lad × Int)):(lF bs).Pairwise (fun a b=>dataLt (aG a) (aG b)=false):=by
 have h:=sort_pairwise (le:=dataLe true aG) (sortLe_total _ _ _) bs;refine h.imp fun {a b} jr=>?_;have h2:(!dataLt (aG a) (aG b))=true:=jr;simpa using h2
theorem oK:∀ {as bs:List (Lad × Int)},as.Perm bs->as.Pairwise (fun a b=>dataLt (aG a) (aG b)=false)->bs.Pairwise (fun a b=>dataLt (aG a) (aG b)=false)->as=bs
 | [],bs,h,_,_=>(List.nil_perm.mp h).symm
 | a::as,[],h,_,_=>by have:=h.length_eq; simp at this
 | a::as,b::bs,h,h1,h2=>by
  have jr:a=b:=by
   have ha:a ∈ b::bs:=h.mem_iff.mp (bF ..);have hb:b ∈ a::as:=h.mem_iff.mpr (bF ..);rcases Qv ha with ha | ha
   ·exact ha
   ·rcases Qv hb with hb | hb
    ·exact hb.symm
    ·exact EH ((List.pairwise_cons.mp h1).1 b hb) ((List.pairwise_cons.mp h2).1 a ha)
  subst jr;rw [oK (List.Perm.cons_inv h) (List.pairwise_cons.mp h1).2 (List.pairwise_cons.mp h2).2]
theorem y8 {cs bs:List (Lad × Int)} (hp:cs.Perm bs) (hs:cs.Pairwise (fun a b=>dataLt (aG a) (aG b)=false)):cs=lF bs:=oK (hp.trans (bC bs).symm) hs (uO bs)
theorem y6 (as bs:List (Lad × Int)):lF (as++bs)=lF (bs++as):=y8 ((bC _).trans List.perm_append_comm) (uO _)
def bS (l k:Lad):Lad:=ofPs (jn (lF (l.ps++k.ps)))
theorem j1 (l k:Lad):bS l k=bS k l:=by unfold bS; rw [y6]
theorem rO {l:Lad} (h:l.Ok B):l.ps.Pairwise (fun a b=>dataLt (aG a) (aG b)=false)/\l.ps.Pairwise (fun a b=>a.1 ≠ b.1):=by
 have h2:=(aS.mp h).2;constructor
 ·refine h2.imp fun {a b} jr=>?_;rw [Q7,if_neg (fun z:a.1=b.1=>c6 jr z.symm)];exact lt_asymm jr
 ·exact h2.imp fun {a b} jr (z:a.1=b.1)=>c6 jr z.symm
theorem j0 {l:Lad} (h:l.Ok B):bS l .nil=l:=by
 unfold bS;rw [show l.ps++(Lad.nil).ps=l.ps by simp [ps],<- y8 (List.Perm.refl _) (rO h).1,ziz (rO h).2,aD]
theorem wx (acc:List (Lad × Int)) (p:Lad × Int):tot (fb acc p)<=tot acc+(1+p.1.parts):=by
 rcases List.eq_nil_or_concat acc with h | ⟨a,z,h⟩
 ·subst h; simp [xR,tot]
 ·subst h;rw [List.concat_eq_append,pA];by_cases hz:z.1=p.1
  ·rw [if_pos hz,aU,aU]; simp only [tot]; rw [hz]; omega
  ·rw [if_neg hz,aU,aU]; simp only [tot]; omega
theorem pF (bs:List (Lad × Int)):tot (jn bs)<=tot bs:=by
 have key:∀ (bs acc:List (Lad × Int)),tot (bs.foldl fb acc)<=tot acc+tot bs:=by
  intro bs
  induction bs with
  | nil=>intro acc; simp [tot]
  | cons x r ih =>
   intro acc;have h1:=ih (fb acc x);have h2:=wx acc x;show tot (r.foldl fb (fb acc x))<=tot acc+(1+x.1.parts+tot r);omega
 have:=key bs [];simpa [jn,tot] using this
theorem oN (l k:Lad):(bS l k).parts<=l.parts+k.parts:=by
 unfold bS;rw [aK];have h1:=pF (lF (l.ps++k.ps));rw [jE (bC _),aU] at h1;have h2:l.parts=tot l.ps:=by rw [<- aK,aD]
 have h3:k.parts=tot k.ps:=by rw [<- aK,aD]
 omega
theorem sH {l k:Lad} (hl:l.deep<=n) (hk:k.deep<=n):(bS l k).deep<=n:=by
 unfold bS;refine eP fun b hb=>?_;obtain ⟨q,hq,e⟩:=BL _ b hb;rw [<- e];rcases Qw ((bC _).mem_iff.mp hq) with h | h
 ·exact cj hl q h
 ·exact cj hk q h
def bH (l:Lad) (m:Int):Lad:=if m=0 then .nil else ofPs (l.ps.map fun p=>(p.1,p.2*m))
theorem vg (f:Int->Int):∀ bs:List (Lad × Int),tot (bs.map fun p=>(p.1,f p.2))=tot bs
 | []=>rfl
 | p::r=>by show 1+p.1.parts+tot _=1+p.1.parts+tot r; rw [vg f r]
theorem kj (l:Lad) (m:Int):(bH l m).parts<=l.parts:=by
 unfold bH
 split
 ·exact Nat.zero_le _
 ·rw [aK,vg (fun x=>x*m),<- aK,aD]; exact Yc _
theorem gq {l:Lad} (m:Int) (h:l.deep<=n):(bH l m).deep<=n:=by
 unfold bH
 split
 ·exact Nat.zero_le _
 ·refine eP fun b hb=>?_;obtain ⟨p,hp,rfl⟩:=Qx hb;exact cj h p hp
end Lad
def Vp (K:Qn):Sp:=fun vs H Q _=>∃ (v u:V) (l k:Lad),vs=[v,u]/\LA K H v l/\LA K H u k/\l.deep<=30/\k.deep<=30/\l.parts<=800000/\k.parts<=800000/\∀ (x:V) (H':Hp),SB [] H H'->LA K H' x (l.bS k)->Q x H'
def Ir (K:Qn):Sp:=fun vs H Q _=>∃ (v:V) (l:Lad) (m:Int),vs=[v,.int m]/\LA K H v l/\l.parts<=900000/\(∀ p ∈ l.ps,0<=p.2/\p.2 < 2 ^ 2000)/\0<=m/\m < 2 ^ 2000/\∀ (x:V) (H':Hp),SB [] H H'->LA K H' x (l.bH m)->Q x H'
namespace Lad
theorem br (x:Lad):aB [] x=0:=rfl
theorem ax (e:Lad) (m:Int) (r:List (Lad × Int)) (x:Lad):aB ((e,m)::r) x=(if e=x then m else 0)+aB r x:=by
 unfold aB;rw [List.filter_cons];by_cases h:e=x
 ·simp [h]
 ·simp [h]
theorem bu (as bs:List (Lad × Int)) (x:Lad):aB (as++bs) x=aB as x+aB bs x:=by
 unfold aB;rw [List.filter_append,Yj,List.sum_append]
theorem dz {bs:List (Lad × Int)} {x:Lad} (h:∀ p ∈ bs,p.1 ≠ x):aB bs x=0:=by
 unfold aB;have:bs.filter (fun p=>decide (p.1=x))=[]:=by
  rw [List.filter_eq_nil_iff];intro p hp;simpa using h p hp
 rw [this]; rfl
theorem jf {as bs:List (Lad × Int)} (h:as.Perm bs) (x:Lad):aB as x=aB bs x:=by
 induction h with
 | nil=>rfl
 | cons p _ ih=>obtain ⟨e,m⟩:=p; rw [ax,ax,ih]
 | swap p q l=>obtain ⟨e,m⟩:=p; obtain ⟨e',m'⟩:=q; rw [ax,ax,ax,ax]; omega
 | trans _ _ h1 h2=>omega
theorem rA (acc:List (Lad × Int)) (p:Lad × Int) (x:Lad):aB (fb acc p) x=aB acc x+(if p.1=x then p.2 else 0):=by
 obtain ⟨e,m⟩:=p;rcases List.eq_nil_or_concat acc with h | ⟨a,z,h⟩
 ·subst h; rw [xR,ax,br]; show (if e=x then m else 0)+0=0+(if e=x then m else 0); omega
 ·subst h;obtain ⟨e',m'⟩:=z;rw [List.concat_eq_append,pA];by_cases hz:e'=e
  ·rw [if_pos hz,bu,bu,ax,ax,br];subst hz;by_cases hx:e'=x
   ·simp only [if_pos hx]; omega
   ·simp only [if_neg hx]; omega
  ·rw [if_neg hz,bu,bu,ax,ax,br]; show _=_+(if e=x then m else 0); omega
theorem lS (bs:List (Lad × Int)) (x:Lad):aB (jn bs) x=aB bs x:=by
 have key:∀ (bs acc:List (Lad × Int)),aB (bs.foldl fb acc) x=aB acc x+aB bs x:=by
  intro bs
  induction bs with
  | nil=>intro acc; show aB acc x=_; rw [br]; omega
  | cons p r ih =>
   intro acc;obtain ⟨e,m⟩:=p;show aB (r.foldl fb (fb acc (e,m))) x=_;rw [ih,rA,ax];show _+(if e=x then m else 0)+_=_;omega
 have:=key bs [];rw [br] at this;unfold jn;omega
theorem oa (f:Int->Int) (hf:f 0=0) (J4:∀ a b,f (a+b)=f a+f b):∀ (bs:List (Lad × Int)) (x:Lad),aB (bs.map fun p=>(p.1,f p.2)) x=f (aB bs x)
 | [],x=>by show aB [] x=_; rw [br,hf]
 | (e,m)::r,x=>by
  show aB ((e,f m)::r.map _) x=_;rw [ax,ax,oa f hf J4 r x,J4];by_cases h:e=x
  ·rw [if_pos h,if_pos h]
  ·rw [if_neg h,if_neg h,hf]
abbrev S (l:Lad) (x:Lad):Int:=aB l.ps x
section
variable {B C:Int}
theorem oV {e:Lad} {r:Lad} (h:(Lad.cons e m r).Ok B):S (.cons e m r) e=m:=by
 show aB ((e,m)::r.ps) e=m;rw [ax,if_pos rfl,dz fun p hp=>c6 (h.2.2.2.2 p hp)];omega
theorem ft {e:Lad} {r x:Lad} (h:(Lad.cons e m r).Ok B) (hx:e.lt x=true):S (.cons e m r) x=0:=by
 show aB ((e,m)::r.ps) x=0;rw [ax,if_neg (c6 hx),dz fun p hp=>c6 (lt_trans _ _ _ (h.2.2.2.2 p hp) hx)]
 rfl
theorem hH {l:Lad} (h:l.Ok B) {p:Lad × Int} (hp:p ∈ l.ps):S l p.1=p.2:=by
 induction l with
 | nil=>cases hp
 | cons e m r _ ih =>
  rcases Qv hp with hp | hp
  ·subst hp; exact oV h
  ·show aB ((e,m)::r.ps) p.1=p.2;rw [ax,if_neg (fun z=>c6 (h.2.2.2.2 p hp) z.symm)];have:=ih h.2.2.2.1 hp;show 0+S r p.1=_;omega
theorem uR {l x:Lad} (h:∀ p ∈ l.ps,p.1 ≠ x):S l x=0:=dz h
theorem cf {l:Lad} (h:l.Ok B) (x:Lad):(S l x=0/\∀ p ∈ l.ps,p.1 ≠ x)\/(∃ m,(x,m) ∈ l.ps/\S l x=m/\1<=m/\m < B):=by
 by_cases hx:∃ p ∈ l.ps,p.1=x
 ·obtain ⟨p,hp,rfl⟩:=hx;have:=(aS.mp h).1 p hp;exact .inr ⟨p.2,hp,hH h hp,this.2⟩
 ·have F3:∀ p ∈ l.ps,p.1 ≠ x:=fun p hp z=>hx ⟨p,hp,z⟩;exact .inl ⟨uR F3,F3⟩
theorem bM {l:Lad} (h:l.Ok B) (x:Lad):0<=S l x:=by
 rcases cf h x with h1 | ⟨m,_,h1,h2,_⟩ <;> omega
def zy (l k:Lad):Prop:=∃ x,S l x < S k x/\∀ y,x.lt y=true->S l y=S k y
theorem mq {l k:Lad}:∀ (_:l.Ok B) (_:k.Ok C),l.lt k=true->zy l k:=by
 induction l generalizing k with
 | nil =>
  intro hl hk h;cases k with
  | nil=>rw [lt_nil_nil] at h; cases h
  | cons e m r =>
   refine ⟨e,?_,fun y hy=>?_⟩
   ·rw [oV hk]; show aB [] e < m; rw [br]; have:=hk.2.1; omega
   ·rw [ft hk hy]; rfl
 | cons e m r _ ih =>
  intro hl hk h;cases k with
  | nil=>rw [lt_cons_nil] at h; cases h
  | cons e' m' r' =>
   rw [dV] at h;by_cases he:e=e'
   ·subst he;rw [if_pos rfl] at h;by_cases hm:m=m'
    ·subst hm;rw [if_pos rfl] at h;obtain ⟨x,h1,h2⟩:=ih hl.2.2.2.1 hk.2.2.2.1 h;refine ⟨x,?_,fun y hy=>?_⟩
     ·show aB ((e,m)::r.ps) x < aB ((e,m)::r'.ps) x;rw [ax,ax];have:aB r.ps x < aB r'.ps x:=h1;omega
     ·show aB ((e,m)::r.ps) y=aB ((e,m)::r'.ps) y;rw [ax,ax];have:aB r.ps y=aB r'.ps y:=h2 y hy;omega
    ·rw [if_neg hm] at h;exact ⟨e,by rw [oV hl,oV hk]; exact Ks h,fun y hy=>by rw [ft hl hy,ft hk hy]⟩
   ·rw [if_neg he] at h;refine ⟨e',?_,fun y hy=>?_⟩
    ·rw [ft hl h,oV hk]; have:=hk.2.1; omega
    ·rw [ft hl (lt_trans _ _ _ h hy),ft hk hy]
theorem zy.asymm {l k:Lad} (h:zy l k) (h2:zy k l):False:=by
 obtain ⟨x,a1,a2⟩:=h;obtain ⟨y,b1,b2⟩:=h2;by_cases e:x=y
 ·subst e; omega
 ·cases Ol:x.lt y with
  | true=>have:=a2 y Ol; omega
  | false=>have:=b2 x (eI x y e Ol); omega
theorem lt_iff {l k:Lad} (hl:l.Ok B) (hk:k.Ok C):l.lt k=true ↔ zy l k:=by
 constructor
 ·exact mq hl hk
 ·intro h;cases e:l.lt k with
  | true=>rfl
  | false =>
   by_cases vL:l=k
   ·subst vL; obtain ⟨x,h1,_⟩:=h; omega
   ·exact (zy.asymm h (mq hk hl (eI l k vL e))).elim
theorem le_iff {l k:Lad} (hl:l.Ok B) (hk:k.Ok C) (h:¬ zy l k):l.lt k=false:=by
 cases e:l.lt k with
 | false=>rfl
 | true=>exact (h (mq hl hk e)).elim
theorem ext {l k:Lad} (hl:l.Ok B) (hk:k.Ok C) (h:∀ x,S l x=S k x):l=k:=by
 by_cases e:l=k
 ·exact e
 ·cases vL:l.lt k with
  | true=>obtain ⟨x,h1,_⟩:=mq hl hk vL; have:=h x; omega
  | false=>obtain ⟨x,h1,_⟩:=mq hk hl (eI l k e vL); have:=h x; omega
theorem vC {bs:List (Lad × Int)} (h:bs.Pairwise (fun a b=>a.1.lt b.1=false)):(jn bs).Pairwise (fun p q=>q.1.lt p.1=true):=by
 have key:∀ (bs acc:List (Lad × Int)),acc.Pairwise (fun p q=>q.1.lt p.1=true)->(∀ a ∈ acc,∀ b ∈ bs,a.1.lt b.1=false)->bs.Pairwise (fun a b=>a.1.lt b.1=false)->(bs.foldl fb acc).Pairwise (fun p q=>q.1.lt p.1=true):=by
  intro bs
  induction bs with
  | nil=>intro acc h _ _; exact h
  | cons p r ih =>
   intro acc h1 h2 h3;obtain ⟨Ta,S9⟩:=List.pairwise_cons.mp h3;refine ih (fb acc p) ?_ ?_ S9
   ·rcases List.eq_nil_or_concat acc with h | ⟨a,z,h⟩
    ·subst h; rw [xR]; exact List.pairwise_singleton _ _
    ·subst h;rw [List.concat_eq_append] at h1 h2 ⊢;rw [pA];obtain ⟨a1,_,a3⟩:=List.pairwise_append.mp h1;by_cases hz:z.1=p.1
     ·rw [if_pos hz,List.pairwise_append];refine ⟨a1,List.pairwise_singleton _ _,fun x hx y hy=>?_⟩;have AZ:y=(p.1,z.2+p.2):=by simpa using hy
      subst AZ;show p.1.lt x.1=true;rw [<- hz]; exact a3 x hx z (by simp)
     ·rw [if_neg hz,List.pairwise_append];refine ⟨h1,List.pairwise_singleton _ _,fun x hx y hy=>?_⟩;have AZ:y=p:=by simpa using hy
      subst AZ;have Jf:y.1.lt z.1=true:=eI _ _ hz (h2 z (by simp) y (bF ..));rcases Qw hx with hx | hx
      ·exact lt_trans _ _ _ Jf (a3 x hx z (by simp))
      ·have F3:x=z:=by simpa using hx
       subst F3; exact Jf
   ·intro a ha b hb;have sX:=Ta b hb;rcases List.eq_nil_or_concat acc with h | ⟨c,z,h⟩
    ·subst h;rw [xR] at ha;have:a=p:=by simpa using ha
     subst this; exact sX
    ·subst h;rw [List.concat_eq_append] at ha h2;rw [pA] at ha;by_cases hz:z.1=p.1
     ·rw [if_pos hz] at ha;rcases Qw ha with ha | ha
      ·exact h2 a (i8 _ ha) b (bX _ hb)
      ·have:a=(p.1,z.2+p.2):=by simpa using ha
       subst this; exact sX
     ·rw [if_neg hz] at ha;rcases Qw ha with ha | ha
      ·exact h2 a ha b (bX _ hb)
      ·have:a=p:=by simpa using ha
       subst this; exact sX
 exact key bs [] List.Pairwise.nil (by simp) h
theorem sE (bs:List (Lad × Int)):(lF bs).Pairwise (fun a b=>a.1.lt b.1=false):=by
 refine (uO bs).imp fun {a b} jr=>?_;rw [Q7] at jr;by_cases h:a.1=b.1
 ·rw [h]; exact lt_irrefl _
 ·rw [if_neg h] at jr; exact jr
theorem cZ (l k x:Lad):S (bS l k) x=S l x+S k x:=by
 show aB (ofPs (jn (lF (l.ps++k.ps)))).ps x=_;rw [a9,lS,jf (bC _),bu]
theorem ug {l:Lad} (h:l.Ok B) (hB:0<=B) (x:Lad):S l x<=B:=by
 rcases cf h x with h1 | ⟨m,_,h1,h2,h3⟩ <;> omega
theorem gX {l k:Lad} (hl:l.Ok B) (hk:k.Ok C) (hB:1<=B) (hC:1<=C):(bS l k).Ok (B+C):=by
 have hd:(jn (lF (l.ps++k.ps))).Pairwise (fun p q=>q.1.lt p.1=true):=vC (sE _);show (ofPs (jn (lF (l.ps++k.ps)))).Ok (B+C);rw [fe];refine ⟨fun p hp=>?_,hd⟩;have hs:aB (jn (lF (l.ps++k.ps))) p.1=p.2:=by
  have Ga:∀ (bs:List (Lad × Int)),bs.Pairwise (fun p q=>q.1.lt p.1=true)->∀ p ∈ bs,aB bs p.1=p.2:=by
   intro bs
   induction bs with
   | nil=>intro _ p hp; cases hp
   | cons q r ih =>
    intro RM p hp;obtain ⟨e,m⟩:=q;obtain ⟨h1,h2⟩:=List.pairwise_cons.mp RM;rw [ax];rcases Qv hp with hp | hp
    ·subst hp;rw [if_pos rfl,dz fun q hq=>c6 (h1 q hq)];omega
    ·rw [if_neg (fun z=>c6 (h1 p hp) z.symm),ih h2 p hp];omega
  exact Ga _ hd p hp
 have fA:p.2=S l p.1+S k p.1:=by
  rw [<- hs,lS,jf (bC _),bu]
 obtain ⟨q,hq,eq⟩:=BL _ p hp;have qd:=(bC _).mem_iff.mp hq;have n1:=bM hl p.1;have n2:=bM hk p.1;have d4:S l p.1 < B:=by rcases cf hl p.1 with h1 | ⟨m,_,h1,h2,h3⟩ <;> omega
 have Oz:S k p.1 < C:=by rcases cf hk p.1 with h1 | ⟨m,_,h1,h2,h3⟩ <;> omega
 have grow:∀ (e:Lad),e.Ok B->e.Ok (B+C):=fun e h=>h.mono (by omega);have KH:∀ (e:Lad),e.Ok C->e.Ok (B+C):=fun e h=>h.mono (by omega);rcases Qw qd with sW | sW
 ·have o:=(aS.mp hl).1 q sW;have sm:=hH hl sW;rw [eq] at sm o;exact ⟨grow _ o.1,by omega,by omega⟩
 ·have o:=(aS.mp hk).1 q sW;have sm:=hH hk sW;rw [eq] at sm o;exact ⟨KH _ o.1,by omega,by omega⟩
def vX (k x:Lad):Bool:=k.ps.all fun p=>!x.lt p.1
theorem vW {k:Lad} (hk:k.Ok B) (x:Lad):vX k x=true ↔ ∀ y,x.lt y=true->S k y=0:=by
 unfold vX;rw [List.all_eq_true];constructor
 ·intro h y hy;refine uR fun p hp z=>?_;have:=h p hp;rw [z,hy] at this;cases this
 ·intro h p hp;cases e:x.lt p.1 with
  | false=>rfl
  | true =>
   have h1:=h p.1 e;rw [hH hk hp] at h1;have:=(aS.mp hk).1 p hp;omega
theorem j3 {l k:Lad} (hk:k.Ok B) (x:Lad):S (cL l k) x=(if vX k x=true then S l x else 0)+S k x:=by
 cases k with
 | nil =>
  rw [dj];show S l x=(if vX .nil x=true then S l x else 0)+aB [] x;rw [br,if_pos (show vX .nil x=true from rfl)]; omega
 | cons e m r =>
  have Su:vX (.cons e m r) x=!x.lt e:=by
   unfold vX;show (!x.lt e&&r.ps.all fun p=>!x.lt p.1)=_;cases h:x.lt e with
   | true=>rfl
   | false =>
    have:r.ps.all (fun p=>!x.lt p.1)=true:=by
     rw [List.all_eq_true];intro p hp;rw [le_trans (le_of_lt (hk.2.2.2.2 p hp)) h]; rfl
    rw [this]; rfl
  rw [cN];show aB (ofPs _).ps x=_;rw [a9,bu,ax,Su];show aB (l.ps.filter fun p=>e.lt p.1) x+((if e=x then aB l.ps e+m else 0)+aB r.ps x)=(if (!x.lt e)=true then aB l.ps x else 0)+aB ((e,m)::r.ps) x;rw [ax];have hf:aB (l.ps.filter fun p=>e.lt p.1) x=if e.lt x=true then aB l.ps x else 0:=by
   unfold aB;rw [List.filter_filter];by_cases h:e.lt x=true
   ·rw [if_pos h]
    congr 2
    refine List.filter_congr fun p hp=>?_;by_cases fB:p.1=x
    ·simp [fB,h]
    ·simp [fB]
   ·rw [if_neg h];have:l.ps.filter (fun p=>decide (p.1=x)&&e.lt p.1)=[]:=by
     rw [List.filter_eq_nil_iff];intro p hp hc;rw [Bool.and_eq_true] at hc;have h1:p.1=x:=Ks hc.1;rw [h1] at hc;exact h hc.2
    rw [this]; rfl
  rw [hf];by_cases hx:e=x
  ·subst hx;rw [lt_irrefl];simp;omega
  ·cases h1:e.lt x with
   | true =>
    rw [lt_asymm h1];simp [hx]
   | false =>
    rw [eI e x hx h1];simp [hx]
theorem fF {l k:Lad} (hl:l.Ok B) (hk:k.Ok C) (hB:1<=B) (hC:1<=C):(cL l k).Ok (B+C):=by
 cases k with
 | nil=>rw [dj]; exact hl.mono (by omega)
 | cons e m r =>
  rw [cN,fe];obtain ⟨h1,h2,h3,h4,h5⟩:=hk;obtain ⟨a1,a2⟩:=aS.mp hl;obtain ⟨b1,b2⟩:=aS.mp h4;have n1:=bM hl e;have d4:S l e < B:=by rcases cf hl e with g1 | ⟨m,_,g1,g2,g3⟩ <;> omega
  constructor
  ·intro p hp;rcases Qw hp with hp | hp
   ·have:=a1 p (List.mem_filter.mp hp).1;exact ⟨this.1.mono (by omega),this.2.1,by omega⟩
   ·rcases Qv hp with hp | hp
    ·subst hp;exact ⟨h1.mono (by omega),by show 1<=S l e+m; omega,by show S l e+m < B+C; omega⟩
    ·have:=b1 p hp;exact ⟨this.1.mono (by omega),this.2.1,by omega⟩
  ·rw [List.pairwise_append,List.pairwise_cons];refine ⟨a2.sublist List.filter_sublist,⟨h5,b2⟩,fun a ha b hb=>?_⟩;have Sy:=(List.mem_filter.mp ha).2;rcases Qv hb with hb | hb
   ·subst hb; exact Sy
   ·exact lt_trans _ _ _ (h5 b hb) Sy
theorem uQ {a b:Lad} (ha:a.Ok B) (hb:b.Ok C) (hB:1<=B) (hC:1<=C):(bS a b).lt (cL a b)=false:=by
 refine le_iff (gX ha hb hB hC) (fF ha hb hB hC) ?_
 rintro ⟨x,h1,_⟩
 rw [cZ,j3 hb] at h1;have:=bM ha x
 split at h1 <;> omega
theorem sG {b c:Lad} (hb:b.Ok B) (hc:c.Ok C) {x:Lad} (h:∀ y,x.lt y=true->S b y=S c y):vX b x=vX c x:=by
 rw [Bool.eq_iff_iff,vW hb,vW hc];exact ⟨fun g y hy=>by rw [<- h y hy]; exact g y hy,fun g y hy=>by rw [h y hy]; exact g y hy⟩
theorem sI {a b c:Lad} (ha:a.Ok B) (hb:b.Ok C) (hc:c.Ok D) (hB:1<=B) (hC:1<=C) (hD:1<=D) (h:b.lt c=true):(cL a b).lt (cL a c)=true:=by
 rw [lt_iff (fF ha hb hB hC) (fF ha hc hB hD)];obtain ⟨x,h1,h2⟩:=mq hb hc h;refine ⟨x,?_,fun y hy=>?_⟩
 ·rw [j3 hb,j3 hc,sG hb hc h2]; omega
 ·rw [j3 hb,j3 hc,sG hb hc (x:=y) (fun z hz=>h2 z (lt_trans _ _ _ hy hz)),h2 y hy]
theorem zh {a b c:Lad} (ha:a.Ok B) (hb:b.Ok C) (hc:c.Ok D) (hB:1<=B) (hC:1<=C) (hD:1<=D) (h:b.lt c=true):(bS a b).lt (bS a c)=true:=by
 rw [lt_iff (gX ha hb hB hC) (gX ha hc hB hD)];obtain ⟨x,h1,h2⟩:=mq hb hc h;exact ⟨x,by rw [cZ,cZ]; omega,fun y hy=>by rw [cZ,cZ,h2 y hy]⟩
theorem hE (l:Lad) (m:Int) (x:Lad):S (bH l m) x=S l x*m:=by
 unfold bH;by_cases h:m=0
 ·rw [if_pos h,h]; show aB [] x=_; rw [br,Int.mul_zero]
 ·rw [if_neg h];show aB (ofPs _).ps x=_;rw [a9];exact oa (fun a=>a*m) (Int.zero_mul m) (fun a b=>Int.add_mul a b m) l.ps x
theorem gQ {l:Lad} (hl:l.Ok B) (hm:0<=m):(bH l m).Ok (B*m+B):=by
 unfold bH;by_cases h:m=0
 ·rw [if_pos h]; trivial
 ·rw [if_neg h,fe];obtain ⟨a1,a2⟩:=aS.mp hl;constructor
  ·intro p hp;obtain ⟨q,hq,rfl⟩:=Qx hp;obtain ⟨g1,g2,g3⟩:=a1 q hq;have hB:0<=B:=by omega
   have b1:q.2*m<=B*m:=Int.mul_le_mul_of_nonneg_right (by omega) hm;have b2:1*1<=q.2*m:=Int.mul_le_mul g2 (by omega) (by omega) (by omega);have b3:0<=B*m:=Int.mul_nonneg hB hm;exact ⟨g1.mono (by omega),by show 1<=q.2*m; omega,by show q.2*m < B*m+B; omega⟩
  ·rw [List.pairwise_map];exact a2
end
end Lad
section
variable {K:Qn} {H:Hp} {σ:L2.St} {Q:VK} {l k:Lad} {v u:V} {i j:Nat}
theorem eqT (h:l=k):PyData.eqv l.enc k.enc=true:=by rw [Lad.bw]; exact Ya h
theorem neF (h:l=k):(!PyData.eqv l.enc k.enc)=false:=by rw [eqT h]; rfl
end
namespace Lad
section
variable {B C:Int}
def rst:Lad->Lad->Lad
 | .nil,k=>k
 | .cons _ _ _,.nil=>.nil
 | .cons e m r,.cons e' m' r'=>if e=e' then (if m=m' then rst r r' else .cons e (m'-m) r') else .cons e' m' r'
theorem iO (k:Lad):rst .nil k=k:=by unfold rst; rfl
theorem fy (e e':Lad) (m m':Int) (r r':Lad):rst (.cons e m r) (.cons e' m' r')=if e=e' then (if m=m' then rst r r' else .cons e (m'-m) r') else .cons e' m' r':=by rw [rst]
theorem oj:∀ l k:Lad,(rst l k).parts<=k.parts
 | .nil,k=>by rw [iO]; exact Yc _
 | .cons _ _ _,.nil=>by rw [rst]; exact Yc _
 | .cons e m r,.cons e' m' r'=>by
  rw [fy];have ih:=oj r r';by_cases he:e=e'
  ·rw [if_pos he];by_cases hm:m=m'
   ·rw [if_pos hm]; show _<=1+e'.parts+r'.parts; omega
   ·rw [if_neg hm,he]; exact Yc _
  ·rw [if_neg he]; exact Yc _
theorem rH:∀ l k:Lad,(rst l k).deep<=k.deep
 | .nil,k=>by rw [iO]; exact Yc _
 | .cons _ _ _,.nil=>by rw [rst]; exact Yc _
 | .cons e m r,.cons e' m' r'=>by
  rw [fy];have ih:=rH r r';by_cases he:e=e'
  ·rw [if_pos he];by_cases hm:m=m'
   ·rw [if_pos hm]; show _<=max (1+e'.deep) r'.deep; omega
   ·rw [if_neg hm,he]; exact Yc _
  ·rw [if_neg he]; exact Yc _
theorem rG:∀ l k:Lad,∀ p ∈ (rst l k).ps,∃ q ∈ k.ps,q.1=p.1
 | .nil,k=>by intro p hp; rw [iO] at hp; exact ⟨p,hp,Ja⟩
 | .cons _ _ _,.nil=>by intro p hp; rw [rst] at hp; cases hp
 | .cons e m r,.cons e' m' r'=>by
  intro p hp;rw [fy] at hp;by_cases he:e=e'
  ·rw [if_pos he] at hp;by_cases hm:m=m'
   ·rw [if_pos hm] at hp;obtain ⟨q,hq,e⟩:=rG r r' p hp;exact ⟨q,bX _ hq,e⟩
   ·rw [if_neg hm] at hp;rcases Qv hp with h | h
    ·subst h; exact ⟨(e',m'),bF ..,he.symm⟩
    ·exact ⟨p,bX _ h,Ja⟩
  ·rw [if_neg he] at hp; exact ⟨p,hp,Ja⟩
theorem iA {e e':Lad} {m':Int} {r r':Lad} (h:Lad.lt (.cons e' m' r') (.cons e m r)=false):(e=e'/\m=m'/\r'.lt r=false)\/(e=e'/\m < m')\/(e ≠ e'/\e.lt e'=true):=by
 rw [dV] at h;by_cases he:e'=e
 ·rw [if_pos he] at h;by_cases hm:m'=m
  ·rw [if_pos hm] at h; exact .inl ⟨he.symm,hm.symm,h⟩
  ·rw [if_neg hm] at h;have:=of_decide_eq_false h;exact .inr (.inl ⟨he.symm,by omega⟩)
 ·rw [if_neg he] at h;exact .inr (.inr ⟨fun z=>he z.symm,eI _ _ he h⟩)
theorem tX:∀ {l k:Lad},l.Ok B->k.Ok C->k.lt l=false->(rst l k).Ok C
 | .nil,k,_,hk,_=>by rw [iO]; exact hk
 | .cons _ _ _,.nil,_,_,_=>by rw [rst]; trivial
 | .cons e m r,.cons e' m' r',hl,hk,h=>by
  rw [fy];obtain ⟨h1,h2,h3,h4,h5⟩:=hk;rcases iA h with ⟨he,hm,hr⟩ | ⟨he,hm⟩ | ⟨he,_⟩
  ·rw [if_pos he,if_pos hm]; exact tX hl.2.2.2.1 h4 hr
  ·rw [if_pos he,if_neg (by omega)];subst he;have:=hl.2.1;exact ⟨h1,by omega,by omega,h4,h5⟩
  ·rw [if_neg he]; exact ⟨h1,h2,h3,h4,h5⟩
theorem BD {e:Lad} {r x:Lad} (h:∀ p ∈ x.ps,p.1.lt e=true):cL (.cons e m r) x=.cons e m (cL r x):=by
 cases x with
 | nil=>rfl
 | cons e2 m2 r2 =>
  have h2:e2.lt e=true:=h (e2,m2) (bF ..);rw [cN,cN];show ofPs (((e,m)::r.ps).filter (fun p=>e2.lt p.1)++(e2,aB ((e,m)::r.ps) e2+m2)::r2.ps)=_;rw [List.filter_cons,if_pos h2,ax,if_neg (fun z=>c6 h2 z.symm),Int.zero_add]
  rfl
theorem qy:∀ {l k:Lad},l.Ok B->k.Ok C->k.lt l=false->cL l (rst l k)=k
 | .nil,k,_,_,_=>by rw [iO,AK]
 | .cons e m r,.nil,_,_,h=>by rw [lt_nil_cons] at h; cases h
 | .cons e m r,.cons e' m' r',hl,hk,h=>by
  rw [fy];obtain ⟨h1,h2,h3,h4,h5⟩:=hk;obtain ⟨g1,g2,g3,g4,g5⟩:=hl;rcases iA h with ⟨he,hm,hr⟩ | ⟨he,hm⟩ | ⟨he,d4⟩
  ·rw [if_pos he,if_pos hm];subst he; subst hm;rw [BD,qy g4 h4 hr];intro p hp;obtain ⟨q,hq,eq⟩:=rG r r' p hp;rw [<- eq]; exact h5 q hq
  ·rw [if_pos he,if_neg (by omega)];subst he;rw [cN];show ofPs (((e,m)::r.ps).filter (fun p=>e.lt p.1)++(e,aB ((e,m)::r.ps) e+(m'-m))::r'.ps)=_;have hf:((e,m)::r.ps).filter (fun p=>e.lt p.1)=[]:=by
    rw [List.filter_eq_nil_iff];intro p hp;rcases Qv hp with hp | hp
    ·subst hp; rw [lt_irrefl]; exact Bool.false_ne_true
    ·rw [lt_asymm (g5 p hp)]; exact Bool.false_ne_true
   rw [hf,ax,if_pos rfl,dz fun p hp=>c6 (g5 p hp)];show cons e (m+0+(m'-m)) (ofPs r'.ps)=_;rw [aD,show m+0+(m'-m)=m' by omega]
  ·rw [if_neg he,cN];show ofPs (((e,m)::r.ps).filter (fun p=>e'.lt p.1)++(e',aB ((e,m)::r.ps) e'+m')::r'.ps)=_;have qp:∀ p ∈ (e,m)::r.ps,p.1.lt e'=true:=by
    intro p hp;rcases Qv hp with hp | hp
    ·subst hp; exact d4
    ·exact lt_trans _ _ _ (g5 p hp) d4
   have hf:((e,m)::r.ps).filter (fun p=>e'.lt p.1)=[]:=by
    rw [List.filter_eq_nil_iff];intro p hp;rw [lt_asymm (qp p hp)]; exact Bool.false_ne_true
   rw [hf,dz fun p hp=>c6 (qp p hp),Int.zero_add];show cons e' m' (ofPs r'.ps)=_;rw [aD]
theorem nil_le (k:Lad):k ≠ .nil->Lad.lt .nil k=true:=by
 cases k with
 | nil=>intro h; exact absurd rfl h
 | cons e m r=>intro _; exact lt_nil_cons e m r
theorem zi {l k:Lad} (hl:l.Ok B) (hk:k.Ok C) (hB:1<=B) (hC:1<=C):(cL l k).lt l=false:=by
 by_cases h:k=.nil
 ·subst h; rw [dj]; exact lt_irrefl _
 ·have:=sI (a:=l) (b:=.nil) (c:=k) (C:=1) hl trivial hk hB (by decide) hC (nil_le k h);rw [dj] at this;exact lt_asymm this
theorem x8 {l o:Lad} {p q:Lad × Int} (hp:l.ps[k]?=some p) (hq:o.ps[k]?=some q):rst (ofPs (l.ps.drop k)) (ofPs (o.ps.drop k))=if p.1=q.1 then (if p.2=q.2 then rst (ofPs (l.ps.drop (k+1))) (ofPs (o.ps.drop (k+1))) else .cons p.1 (q.2-p.2) (ofPs (o.ps.drop (k+1)))) else .cons q.1 q.2 (ofPs (o.ps.drop (k+1))):=by
 have h1:k < l.ps.length:=(Kq hp).1;have h2:k < o.ps.length:=(Kq hq).1;have e1:l.ps[k]=p:=(Kq hp).2;have e2:o.ps[k]=q:=(Kq hq).2;rw [List.drop_eq_getElem_cons h1,List.drop_eq_getElem_cons h2,e1,e2];exact fy _ _ _ _ _ _
theorem yY (p q:Lad × Int):PyData.eqv (aG p) (aG q)=(decide (p.1=q.1)&&decide (p.2=q.2)):=by
 simp [aG,PyData.eqv,PyData.eqvAll,Lad.bw,ib]
theorem kT {p:Lad × Int} (h:p.1.deep<=29):SeqAt.shaped (aG p)=true:=by
 have h1:=eH p;have h2:=bL (l:=p.1) (by omega);unfold SeqAt.shaped at h2 ⊢;rw [Bool.and_eq_true] at h2 ⊢;refine ⟨?_,by simp; omega⟩;simp [aG,PyData.canLay0,PyData.canLayAll0,h2.1]
end
end Lad
structure Own (K:Qn) (mg:Str->Option Value) (x:Str) (C:Addr):Prop where
 gC:mg x=some (.ref C)
 q:PySem.W.excIn K C He.veBase "ValueError.__new__"=true
 k:PySem.W.keepIn K (.ref C)=true
 s:PySem.W.subIn K (.ref C) (.type "BaseException")=some true
 t:PySem.W.typeIn K (.ref C)=some (.type "type")
def Vt (K:Qn) (C:Addr):Sp:=fun vs H Q E=>∃ (v u:V) (l k:Lad),vs=[v,u]/\LA K H v l/\LA K H u k/\l.deep<=29/\k.deep<=29/\l.parts<=900000/\k.parts<=900000 /\
 (k.lt l=false->∀ (x:V) (H':Hp),SB [] H H'->LA K H' x (l.rst k)->Q x H')/\(k.lt l=true->E (.ref C) none H)
structure GotX (P:Program) (w:World) (K:Qn) (mg:Str->Option Value) (base:Heap) (x:Str) (ps:List Str) (k:Nat) (sp:Sp):Prop where
 ex:∃ (f:Addr) (fd:FuncData),FnOk P w K mg base (L2.CX P w) k f fd ps sp/\PySem.W.keepIn K (.ref f)=true/\Binds K fd ps []/\mg x=some (.ref f)
section
variable {X:Cx} {x:Str} {ps:List Str} {k:Nat} {sp:Sp} {e:Expr} {es:List Expr} {t:TA} {p pos:Pos}
theorem Ii (G:GotX X.prog X.w X.K X.mg X.base x ps k sp) (hr:Room k X.A) (hg:Gl X x) (ha:PA X (e::es) t) (yH:(x == ("__debug__":Str))=false:=by decide) (he:starEach (e::es) X.env=(false,eval e X.env)::starEach es X.env:=by rfl) (fc:(backTo pos (starEach es X.env)).any (·.1)=false:=by rfl) :
  PE X (.Call (.Name x p) (e::es) [] pos) (tCall sp [] E0 t):=by
 obtain ⟨f,fd,h1,h2,h3,h4⟩:=G.ex;exact pe_call h1 hr hg h4 h2 h3 .nil passL ha yH he fc
theorem jb {W:WX} (G:GotX X.prog X.w X.K X.mg X.base x ps k sp) (hr:Room k X.A) (hg:Gl X x) (tk:Takes X W) (ha:PA X (e::es) t) (yH:(x == ("__debug__":Str))=false:=by decide) (he:starEach (e::es) X.env=(false,eval e X.env)::starEach es X.env:=by rfl) (fc:(backTo pos (starEach es X.env)).any (·.1)=false:=by rfl) :
  PE X (.Call (.Name x p) (e::es) [] pos) (tCallS sp (WE W) t):=by
 obtain ⟨f,fd,h1,h2,h3,h4⟩:=G.ex;exact pe_callS h1 hr hg h4 h2 h3 (fun σ=>passAt tk σ) ha yH he fc
end
abbrev Ni:Type:=He.AlD × Bool
def OZ (K:Qn) (D:Addr):Bool :=
 He.eqO (PySem.W.findIn K (.ref D) "__getattribute__") (some (some (.builtin "BaseException.__getattribute__")))&&(He.eqO (PySem.W.findIn K (.ref D) "__getattr__") (some none)&&(decide (PySem.W.subIn K (.ref D) (.type "BaseException")=some true)&&(PySem.W.hasDictIn K D&&(He.eqO (PySem.W.findIn K (.ref D) "__class__") (some (some (.builtin "object.__class__"))) &&
 (He.eqO (PySem.W.specialIn K (.builtin "object.__class__") "__get__") (some (some (.builtin "getset_descriptor.__get__")))&&(decide (PySem.W.takesIn K (.builtin "object.__class__")=some true)&&decide (PySem.W.mroIn K D (.type "object")=some true)))))))
theorem zdj {D:Addr} (h:OZ K D=true):ExcC K D:=by
 obtain ⟨h1,h⟩:=He.ba h;obtain ⟨h2,h⟩:=He.ba h;obtain ⟨h3,h⟩:=He.ba h;obtain ⟨h4,h⟩:=He.ba h;obtain ⟨h5,h⟩:=He.ba h;obtain ⟨h6,h⟩:=He.ba h;obtain ⟨h7,h8⟩:=He.ba h;exact ⟨He.eqO_ok h1,He.eqO_ok h2,Ks h3,h4,He.eqO_ok h5,He.eqO_ok h6,Ks h7,Ks h8⟩
section
variable {J:It} {n:Nat} {G:Hp->Prop} {Y:Nat->Hp->V->Hp->Prop}
theorem DM (w:Walk J n G Y) {H0:Hp} {Qd:Hp->Prop} {body:(Hp->Prop)->V->Hp->Prop} (Pv:Nat->Hp->Prop) (h0:Pv 0 H0) (hG:∀ i H,i<=n->Pv i H->G H)
  (hs:∀ i x H H',i < n->Pv i H->Y i H x H'->body (Pv (i+1)) x H') (hd:∀ H,Pv n H->Qd H) :
  ∃ W:Nat->Nat->Hp->Prop,(∃ m,W 0 m H0)/\∀ i m H,W i m H ->
   (J.stop i H/\Qd H)\/(J.go i H/\∃ Nx:Hp->Prop,(∀ H',Nx H'->∃ m',m' < m/\W (i+1) m' H')/\∀ x H',J.yld i H x H'->body Nx x H'):=by
 refine ⟨fun i m H=>m=n-i/\i<=n/\Pv i H,⟨n,by simp,Nat.zero_le _,h0⟩,?_⟩
 rintro i m H ⟨rfl,hi,p⟩
 have q:=hG i H hi p;by_cases d4:i < n
 ·exact .inr ⟨w.goes i H d4 q,Pv (i+1),fun H' p'=>⟨n-(i+1),by omega,Ja,d4,p'⟩,fun x H' y=>hs i x H H' d4 p (w.yields i H x H' d4 q y)⟩
 ·have e:i=n:=by omega
  subst e;exact .inl ⟨w.stops H q,hd H p⟩
end
section
variable {prog:Program} {w:World} {A:Around} {E:Value->Shared->Prop} {s:Shared} {β:Type} {vs:List Value} {bs:List β} {enc:β->PyData} {R:Value->β->Prop}
theorem Xq {kw:List (Str × Value)} {b:Bool} {Q:Value->Shared->Prop} (xH:∀ a,Builtin.«list.sort» ⟨[.ref a],kw⟩=Builtin.«list.sort» ⟨[.ref a],[(Str.ofString "reverse",.bool b)]⟩) (sr:argsOk "sorted" ⟨[.ref t],kw⟩) (xM:∀ x,argsOk "list.sort" ⟨[.ref x],kw⟩)
  (ht:PlainL s.heap t vs.toArray) (e:EachIs R vs bs) (er:EachIs (fun v b=>∃ as,Reads s.heap v (enc b) as) vs bs) (nV:AllAlike (bs.map enc)) (hk:Sortable (bs.map enc)) (hL:bs.length<=sizeLine)
  (hu:∀ b,b ∈ bs->A.units+2+(enc b).depth < cLine)
  (h:∀ (out:List Value) (h' h2:Heap) (n:Nat),(∀ b o,s.heap.get? b=some o->h'.get? b=some o)->(∀ b o,h'.get? b=some o->h2.get? b=some o)->h2.get? h'.objs.size=some (seqObj "list" out.toArray n)->out.length=bs.length->EachIs R out (bs.mergeSort (dataLe b enc))->Q (.ref h'.objs.size) { s with heap:=h2 }) :
  wpAny (model prog w) A (call (.builtin "sorted") [.ref t] kw) Q E s:=by
 have hlen:vs.length<=sizeLine:=by rw [e.length]; exact hL
 obtain ⟨o,n0,ho,hc,_,hd⟩:=id ht;refine call_function_entry_kw kind_sorted plain_sorted entry_sorted sr ?_;unfold Builtin.«sorted»;refine wpAny_bind (m:=checkCount "sorted" 1 1 _) (wpAny_pure ?_);refine Ke (wpAny_collect_seq t (.inl rfl) ho hc hd (fun h' xI=>?_) (by rw [List.size_toArray]; exact hlen));refine Ke (wpAny_newList ?_ hlen);show wpAny _ _ _ _ _ { s with heap:=h'.push (seqObj "list" vs.toArray 0) };have tc:(h'.push (seqObj "list" vs.toArray 0)).get? h'.objs.size=some (seqObj "list" vs.toArray 0):=Heap.get?_push_size _ rfl;refine Ke (wpAny_holding (wpAny_call_entry_kw slot_list_sort ⟨_,tc,Ja⟩ entry_list_sort ?body (xM _)))
 case body =>
  rw [xH];have old:∀ b o,h'.get? b=some o->(sortingHeap (h'.push (seqObj "list" vs.toArray 0)) h'.objs.size vs).get? b=some o:=fun b o q=>sortingHeap_old (Nat.ne_of_lt (Heap.lt_size q)) (Heap.get?_push_of_some _ q);have Ag:EachIs (fun v b=>∃ as,Reads (sortingHeap (h'.push (seqObj "list" vs.toArray 0)) h'.objs.size vs) v (enc b) as) vs bs:=er.mono fun _ _ ⟨as,r⟩=>⟨as,PyProof.Rows.Reads.keeps (fun b o q=>old b o (xI b o q)) r⟩;refine list_sort_rev_vals (s:={ s with heap:=h'.push (seqObj "list" vs.toArray 0) }) (κ:=dataKind (sortingHeap (h'.push (seqObj "list" vs.toArray 0)) h'.objs.size vs) (bs.map enc)) tc (SortsAt.data (s:={ s with heap:=sortingHeap (h'.push (seqObj "list" vs.toArray 0)) h'.objs.size vs }) (each_map (R:=fun v d=>∃ as,Reads (sortingHeap (h'.push (seqObj "list" vs.toArray 0)) h'.objs.size vs) v d as) enc Ag) nV hk (bound_map hu)) hlen ?_;refine ⟨_,Ja,wpAny_pure ⟨_,Ja,?_⟩⟩;obtain ⟨n2,uF⟩:=sortedHeap_at (out:=(sortVals (dataKind (sortingHeap (h'.push (seqObj "list" vs.toArray 0)) h'.objs.size vs) (bs.map enc)) b vs vs).toArray) tc;refine h _ h' _ n2 xI (fun b o q=>?_) uF (by rw [sortVals_length b rfl]; exact e.length) (sortVals_data b e Ag nV);rw [sortedHeap_old (Nat.ne_of_lt (Heap.lt_size q)) (by rw [size_push']; exact Nat.lt_succ_of_lt (Heap.lt_size q))];exact Heap.get?_push_of_some _ q
end
def Py (K:Qn) {β:Type} (enc:β->PyData) (b:Bool) (vs:List V) (H:Hp) (Q:VK):Prop:=∃ (a:Addr) (xs:List V) (bs:List β),vs=[V.ref a]/\SqL K H a xs/\Bears K H enc xs bs/\AllAlike (bs.map enc)/\Sortable (bs.map enc)/\bs.length<=10000000/\(∀ b ∈ bs,(enc b).depth<=100) /\
 ∀ (p:Addr) (ys:List V),H p=none->Bears K H enc ys (bs.mergeSort (dataLe b enc))->Q (.ref p) (upd H p (.lst ys))
section
variable {X:Cx}
theorem Xu {β:Type} {enc:β->PyData} {b:Bool} {kw:List (Str × Value)} (hu:X.A.units+110 < cLine) (xH:∀ a,Builtin.«list.sort» ⟨[.ref a],kw⟩=Builtin.«list.sort» ⟨[.ref a],[(Str.ofString "reverse",.bool b)]⟩) (sr:∀ t,argsOk "sorted" ⟨[.ref t],kw⟩) (xM:∀ x,argsOk "list.sort" ⟨[.ref x],kw⟩)
  {pins:List (Addr × Obj)} {s:Shared} {σ:L2.St} {H:Hp} {vs:List V} {us:List Value} {Q:VK} (I:Inv X pins σ H s) (r:Vals vs us) (h:Py X.K enc b vs H Q):wpAny (model X.prog X.w) X.A (call (.builtin "sorted") us kw) (EP X pins σ Q) X.xe s:=by
 obtain ⟨a,xs,bs,rfl,hs,hb,nV,F5,hl,hd,q⟩:=h;obtain ⟨cn,rv,D6,_⟩:=I.list hs;rw [Vals.ref1 r];obtain ⟨e1,e2⟩:=FD I hb rv;refine Xq (vs:=cn) (bs:=bs) (enc:=enc) (R:=fun u b=>∃ v,RelV v u/\Dp X.K H v (enc b)) xH (sr _) xM D6 e1 e2 nV F5 (by rw [sizeLine_eq]; omega) (fun b m=>by have:=hd b m; omega) fun out h' h2 n k1 k2 tc ho h1=>?_;obtain ⟨ys,g2,g3⟩:=Ie h1;have I':Inv X pins σ H { s with heap:=h' }:=I.kept (t':=s.toks) k1;have hlen:ys.length<=sizeLine:=by rw [g2.length,ho,sizeLine_eq]; omega
 exact ⟨.ref _,upd H h'.objs.size (.lst ys),I'.laid (t':=s.toks) (fun b o e=>k2 b o e) (Yc _) ⟨hlen,out,n,g2,tc⟩,Ja,q _ ys (I'.hok.fresh (Yc _)) g3⟩
theorem zb3 {β:Type} (enc:β->PyData) (hu:X.A.units+110 < cLine):CallR X (.builtin "sorted") (Py X.K enc false):=by
 intro pins s σ H vs us Q I r h;exact Xu (kw:=[]) hu plain_is_rev (fun _=>args_sorted1 _) (fun _=>args_list_sort _) I r h
theorem z9z {β:Type} (enc:β->PyData) {b:Bool} (hu:X.A.units+110 < cLine):CallRK X (.builtin "sorted") [Str.ofString "reverse"] (fun vs zs H Q=>zs=[.bl b]/\Py X.K enc b vs H Q):=by
 intro pins s σ H vs zs us ws Q I r rz h;obtain ⟨rfl,h⟩:=h;obtain ⟨w1,rfl,e1⟩:=vals1 rz;obtain rfl:w1=Value.bool b:=e1;exact Xu hu (fun _=>rfl) (fun _=>args_sorted_rev _ _) (fun _=>args_list_sort_rev _ _) I r h
end
namespace Lad
def alh:Lad->Lad->Nat
 | .cons e m r,.cons e' m' r'=>if e=e'/\m=m' then 1+alh r r' else 0
 | _,_=>0
theorem sL (e e':Lad) (m m':Int) (r r':Lad):alh (.cons e m r) (.cons e' m' r')=if e=e'/\m=m' then 1+alh r r' else 0:=by rw [alh]
theorem oT (k:Lad):alh .nil k=0:=by cases k <;> rfl
theorem oS (k:Lad):alh k .nil=0:=by cases k <;> rfl
theorem zm {l o:Lad} {p q:Lad × Int} (hp:l.ps[k]?=some p) (hq:o.ps[k]?=some q):alh (ofPs (l.ps.drop k)) (ofPs (o.ps.drop k))=if p.1=q.1/\p.2=q.2 then 1+alh (ofPs (l.ps.drop (k+1))) (ofPs (o.ps.drop (k+1))) else 0:=by
 have h1:k < l.ps.length:=(Kq hp).1;have h2:k < o.ps.length:=(Kq hq).1;have e1:l.ps[k]=p:=(Kq hp).2;have e2:o.ps[k]=q:=(Kq hq).2;rw [List.drop_eq_getElem_cons h1,List.drop_eq_getElem_cons h2,e1,e2];exact sL _ _ _ _ _ _
theorem BE {l o:Lad} (h:¬ (k < l.ps.length/\k < o.ps.length)):alh (ofPs (l.ps.drop k)) (ofPs (o.ps.drop k))=0:=by
 rcases Nat.lt_or_ge k l.ps.length with h1 | h1
 ·rw [List.drop_eq_nil_of_le (show o.ps.length<=k by omega)]; exact oS _
 ·rw [List.drop_eq_nil_of_le h1]; exact oT _
theorem sJ:∀ l o:Lad,alh l o<=l.ps.length/\alh l o<=o.ps.length/\l.lt o=(ofPs (l.ps.drop (alh l o))).lt (ofPs (o.ps.drop (alh l o)))/\o.lt l=(ofPs (o.ps.drop (alh l o))).lt (ofPs (l.ps.drop (alh l o)))/\rst l o=rst (ofPs (l.ps.drop (alh l o))) (ofPs (o.ps.drop (alh l o)))/\(∀ p q,l.ps[alh l o]?=some p->o.ps[alh l o]?=some q->¬ (p.1=q.1/\p.2=q.2))
 | .nil,o=>by
  rw [oT];refine ⟨Nat.zero_le _,Nat.zero_le _,?_,?_,?_,fun p q h=>by simp [ps] at h⟩
  ·rw [List.drop_zero,List.drop_zero,aD,aD]
  ·rw [List.drop_zero,List.drop_zero,aD,aD]
  ·rw [List.drop_zero,List.drop_zero,aD,aD]
 | .cons e m r,.nil=>by
  rw [oS];refine ⟨Nat.zero_le _,Nat.zero_le _,?_,?_,?_,fun p q _ h=>by simp [ps] at h⟩
  ·rw [List.drop_zero,List.drop_zero,aD,aD]
  ·rw [List.drop_zero,List.drop_zero,aD,aD]
  ·rw [List.drop_zero,List.drop_zero,aD,aD]
 | .cons e m r,.cons e' m' r'=>by
  rw [sL];by_cases h:e=e'/\m=m'
  ·rw [if_pos h];obtain ⟨rfl,rfl⟩:=h;obtain ⟨h1,h2,h3,h4,h5,h6⟩:=sJ r r';have d1:(Lad.cons e m r).ps.drop (1+alh r r')=r.ps.drop (alh r r'):=by rw [Nat.add_comm]; rfl
   have d2:(Lad.cons e m r').ps.drop (1+alh r r')=r'.ps.drop (alh r r'):=by rw [Nat.add_comm]; rfl
   rw [d1,d2,<- h3,<- h4,<- h5];refine ⟨?_,?_,?_,?_,?_,?_⟩
   ·show _<=r.ps.length+1; omega
   ·show _<=r'.ps.length+1; omega
   ·rw [dV,if_pos rfl,if_pos rfl]
   ·rw [dV,if_pos rfl,if_pos rfl]
   ·rw [fy,if_pos rfl,if_pos rfl]
   ·rw [Nat.add_comm]; exact h6
  ·rw [if_neg h];refine ⟨Nat.zero_le _,Nat.zero_le _,?_,?_,?_,fun p q hp hq=>?_⟩
   ·rw [List.drop_zero,List.drop_zero,aD,aD]
   ·rw [List.drop_zero,List.drop_zero,aD,aD]
   ·rw [List.drop_zero,List.drop_zero,aD,aD]
   ·have e1:(e,m)=p:=Yd hp;have e2:(e',m')=q:=Yd hq;rw [<- e1,<- e2]; exact h
def aT (ls:List Lad):Lad:=ofPs (jn (lF (ls.flatMap ps)))
theorem zg (l k:Lad):aT [l,k]=bS l k:=by simp [aT,bS,List.flatMap]
end Lad
def V0 (K:Qn):Sp:=fun vs H Q _=>∃ (v u:V) (l k:Lad),vs=[v,u]/\LA K H v l/\LA K H u k/\l.deep<=29/\k.deep<=29/\l.parts<=1000000/\k.parts<=1000000/\Q (.int (Lad.alh l k:Nat)) H
def Pj (K:Qn):Sp:=fun vs H Q _=>∃ (v:V) (l:Lad),vs=[v]/\LA K H v l/\∀ (x:V) (H':Hp),SB [] H H'->LA K H' x (.cons l 1 .nil)->Q x H'
def Nv (K:Qn):Sp:=fun vs H Q _=>∃ (a:Addr) (xs:List V) (ls:List Lad),vs=[.ref a]/\SqL K H a xs/\Bears K H Lad.enc xs ls/\(∀ l ∈ ls,l.deep<=30)/\(ls.flatMap Lad.ps).length<=1900000/\∀ (x:V) (H':Hp),SB [] H H'->LA K H' x (Lad.aT ls)->Q x H'
namespace Lad
section
variable {B C D:Int}
abbrev cV:Lad:=.cons .nil 1 .nil
theorem vy:Lad.num 1=cV:=if_neg (by decide)
theorem fx:cV.Ok 2:=⟨trivial,by decide,by decide,trivial,by simp [ps]⟩
theorem kZ (e x:Lad):S (.cons e 1 .nil) x=if e=x then 1 else 0:=by
 show aB ((e,1)::[]) x=_;rw [ax,br,Int.add_zero]
theorem la (e x:Lad):S (cL e cV) x=S e x+if Lad.nil=x then 1 else 0:=by
 rw [j3 fx,kZ];have:vX cV x=true:=by simp [vX,ps,bR]
 rw [if_pos this]
theorem xV {e:Lad} (he:e.Ok B) (hB:1<=B):e.lt (cL e cV)=true:=by
 rw [lt_iff he (fF he fx hB (by decide))];refine ⟨.nil,?_,fun y hy=>?_⟩
 ·rw [la,if_pos rfl]; omega
 ·rw [la,if_neg (c6 hy),Int.add_zero]
theorem kr {e y:Lad} (he:e.Ok B) (hy:y.Ok C) (hB:1<=B) (h:e.lt y=true):cL e cV=y\/(cL e cV).lt y=true:=by
 have ho:=fF he fx hB (by decide);obtain ⟨x,hx,Oq⟩:=(lt_iff he hy).mp h;by_cases hn:x=.nil
 ·subst hn;have hz:∀ z,Lad.nil ≠ z->S e z=S y z:=fun z hz=>Oq z (nil_le z fun q=>hz q.symm);by_cases hq:S e .nil+1=S y .nil
  ·left
   refine ext ho hy fun z=>?_;rw [la];by_cases z0:Lad.nil=z
   ·subst z0; rw [if_pos rfl]; exact hq
   ·rw [if_neg z0,Int.add_zero]; exact hz z z0
  ·right
   rw [lt_iff ho hy];refine ⟨.nil,?_,fun z Yu=>?_⟩
   ·rw [la,if_pos rfl]; omega
   ·rw [la,if_neg (c6 Yu),Int.add_zero]; exact hz z (c6 Yu)
 ·right
  rw [lt_iff ho hy];refine ⟨x,?_,fun z hz=>?_⟩
  ·rw [la,if_neg (fun h=>hn h.symm),Int.add_zero]; exact hx
  ·have:Lad.nil ≠ z:=fun h=>by subst h; rw [bR] at hz; cases hz
   rw [la,if_neg this,Int.add_zero]; exact Oq z hz
theorem jG (e x:Lad):∀ bs:List (Lad × Int),aB (bs.filter fun p=>e.lt p.1) x=if e.lt x=true then aB bs x else 0
 | []=>by simp [br]
 | (a,m)::r=>by
  have ih:=jG e x r;rw [List.filter_cons];by_cases h:e.lt a=true
  ·rw [if_pos h,ax,ax,ih];by_cases hx:e.lt x=true
   ·rw [if_pos hx,if_pos hx]
   ·have:a ≠ x:=fun z=>hx (z ▸ h);rw [if_neg hx,if_neg hx,if_neg this]; rfl
  ·rw [if_neg h,ih,ax];by_cases hx:e.lt x=true
   ·have:a ≠ x:=fun z=>h (z ▸ hx);rw [if_pos hx,if_pos hx,if_neg this,Int.zero_add]
   ·rw [if_neg hx,if_neg hx]
theorem xt {l:Lad} (h:l.Ok B) (g:Lad × Int->Bool):(ofPs (l.ps.filter g)).Ok B:=by
 have:=aS.mp h;rw [fe];exact ⟨fun p hp=>this.1 p (List.mem_filter.mp hp).1,this.2.filter _⟩
theorem jZ (l:Lad) (g:Lad × Int->Bool):(ofPs (l.ps.filter g)).parts<=l.parts:=by
 have h:=jc g l.ps;rw [aK];have h2:tot l.ps=l.parts:=by rw [<- aK,aD]
 omega
theorem kW {l:Lad} (g:Lad × Int->Bool) (h:l.deep<=n):(ofPs (l.ps.filter g)).deep<=n :=
 eP fun b hb=>Nat.lt_of_lt_of_le (aA l b (List.mem_filter.mp hb).1) h
def oU (l:Lad):Lad->Lad
 | .nil=>bS l cV
 | .cons e _ _=>bS (ofPs (l.ps.filter fun p=>e.lt p.1)) (.cons (cL e cV) 1 .nil)
theorem yd {e:Lad} (h:e.Ok B) (hB:2<=B):(Lad.cons e 1 .nil).Ok B:=⟨h,by decide,by omega,trivial,by simp [ps]⟩
theorem qC {l k:Lad} (hl:l.Ok B) (hk:k.Ok C) (hB:1<=B) (hC:1<=C):(oU l k).Ok (B+(C+2)):=by
 cases k with
 | nil=>exact (gX hl fx hB (by decide)).mono (by omega)
 | cons e m r=>exact gX (xt hl _) (yd (fF hk.1 fx hC (by decide)) (by omega)) hB (by omega)
theorem xy (l k:Lad):(oU l k).parts<=l.parts+k.parts+2:=by
 cases k with
 | nil=>have:=oN l cV; show (bS l cV).parts<=_; have h1:cV.parts=1:=rfl; omega
 | cons e m r =>
  have h1:=oN (ofPs (l.ps.filter fun p=>e.lt p.1)) (.cons (cL e cV) 1 .nil);have h2:=jZ l fun p=>e.lt p.1;have h3:=gD e cV;have h4:(Lad.cons (cL e cV) 1 .nil).parts=1+(cL e cV).parts+0:=rfl;have h5:(Lad.cons e m r).parts=1+e.parts+r.parts:=rfl;have h6:cV.parts=1:=rfl;show (bS _ _).parts<=_;omega
theorem sN {l k:Lad} (hl:l.deep<=n) (hk:k.deep<=n) (hn:2<=n):(oU l k).deep<=n:=by
 cases k with
 | nil=>exact sH hl (by show 1<=n; omega)
 | cons e m r =>
  refine sH (kW _ hl) ?_;have h1:1+e.deep<=n:=Yb (Nat.le_max_left _ _) hk;have h2:=iG (n:=n-1) (l:=e) (k:=cV) (by omega) (by show 1<=n-1; omega);show max (1+(cL e cV).deep) 0<=n;omega
theorem oY (l e:Lad) (m:Int) (r x:Lad):S (oU l (.cons e m r)) x=(if e.lt x=true then S l x else 0)+if cL e cV=x then 1 else 0:=by
 show S (bS _ _) x=_;rw [cZ,kZ];show aB (ofPs _).ps x+_=_;rw [a9,jG]
theorem zf {l k:Lad} {n:Int} (hl:l.Ok B) (hk:k.Ok C) (hB:1<=B) (hC:1<=C) (hn:0<=n):(bS l (bH k n)).Ok (B+(C*n+C)):=by
 have:0<=C*n:=Int.mul_nonneg (by omega) hn;exact gX hl (gQ hk hn) hB (by omega)
theorem oW (l k x:Lad) (n:Int):S (bS l (bH k n)) x=S l x+S k x*n:=by rw [cZ,hE]
theorem EJ {l k:Lad} {n:Int} (hl:l.Ok B) (hk:k.Ok C) (hB:1<=B) (hC:1<=C) (hn:0<=n):(bS l (bH k n)).lt (oU l k)=true:=by
 rw [lt_iff (zf hl hk hB hC hn) (qC hl hk hB hC)];cases k with
 | nil =>
  have e0:∀ x,S Lad.nil x=0:=fun x=>rfl;refine ⟨.nil,?_,fun y hy=>?_⟩
  ·rw [oW];show _ < S (bS l cV) .nil;rw [cZ,kZ,if_pos rfl,e0,Int.zero_mul]; omega
  ·rw [oW];show _=S (bS l cV) y;rw [cZ,kZ,if_neg (c6 hy),e0,Int.zero_mul]
 | cons e m r =>
  have Bf:=xV hk.1 hC;refine ⟨cL e cV,?_,fun y hy=>?_⟩
  ·rw [oW,oY,if_pos Bf,if_pos rfl,ft hk Bf,Int.zero_mul]; omega
  ·have Oj:=lt_trans _ _ _ Bf hy;rw [oW,oY,if_pos Oj,if_neg (c6 hy),ft hk Oj,Int.zero_mul]
def Bw:Lad->Lad->Int
 | .nil,_=>0
 | .cons e _ _,t=>1+S t e
theorem mN {k t:Lad} (ht:t.Ok D):0<=Bw k t:=by
 cases k with
 | nil=>exact Kw _
 | cons e m r=>have:=bM ht e; show 0<=1+S t e; omega
theorem xA {l k t:Lad} (hl:l.Ok B) (hk:k.Ok C) (ht:t.Ok D) (hB:1<=B) (hC:1<=C) (h:t.lt (oU l k)=true):(bS l (bH k (Bw k t))).lt t=false:=by
 cases k with
 | nil =>
  rw [show Bw .nil t=0 from rfl,show bH .nil 0=.nil from if_pos rfl,j0 hl];cases d4:l.lt t with
  | false=>rfl
  | true =>
   exfalso
   have e:oU l .nil=cL l cV:=ext (gX hl fx hB (by decide)) (fF hl fx hB (by decide)) fun x=>by
    show S (bS l cV) x=_;rw [cZ,la,kZ]
   rw [e] at h;rcases kr hl ht hB d4 with h1 | h1
   ·rw [h1,lt_irrefl] at h; cases h
   ·rw [lt_asymm h1] at h; cases h
 | cons e m r =>
  have he:e.Ok C:=hk.1;have hN:=mN (k:=.cons e m r) ht;have hU:=zf (n:=Bw (.cons e m r) t) hl hk hB hC hN;have Bf:e.lt (cL e cV)=true:=xV he hC;have Ua:∀ y,e.lt y=true->S (bS l (bH (.cons e m r) (Bw (.cons e m r) t))) y=S l y:=fun y hy=>by
   rw [oW,ft hk hy,Int.zero_mul,Int.add_zero]
  refine le_iff hU ht fun d4=>?_;obtain ⟨x,hx,Oq⟩:=(lt_iff ht (qC hl hk hB hC)).mp h;have QG:∀ y,(x=y\/x.lt y=true)->(cL e cV).lt y=true->x.lt y=true->S t y=S (bS l (bH (.cons e m r) (Bw (.cons e m r) t))) y:=fun y _ YB Ol=>by
   have h2:=lt_trans _ _ _ Bf YB;rw [Oq y Ol,oY,if_pos h2,if_neg (c6 YB),Int.add_zero,Ua y h2]
  by_cases hxs:cL e cV=x
  ·subst hxs;rw [oY,if_pos Bf,if_pos rfl] at hx;by_cases hq:S t (cL e cV) < S l (cL e cV)
   ·exact zy.asymm d4 ⟨cL e cV,by rw [Ua _ Bf]; exact hq,fun y hy=>QG y (.inr hy) hy hy⟩
   ·refine zy.asymm d4 ⟨e,?_,fun y hy=>?_⟩
    ·rw [oW,oV hk];have h1:=bM hl e;have h2:=bM ht e;have h3:=hk.2.1;show S t e < S l e+m*(1+S t e);have h4:1*(1+S t e)<=m*(1+S t e):=Int.mul_le_mul_of_nonneg_right h3 (by omega);omega
    ·by_cases hys:cL e cV=y
     ·subst hys;rw [Ua _ Bf]; omega
     ·have X6:(∃ E,y.Ok E)->S t y=S (bS l (bH (.cons e m r) (Bw (.cons e m r) t))) y:=fun ⟨E,hyo⟩=>by
       rcases kr he hyo hC hy with h1 | h1
       ·exact absurd h1 hys
       ·exact QG y (.inr h1) h1 h1
      rcases cf ht y with ⟨z,_⟩ | ⟨mm,hm,_⟩
      ·rcases cf hl y with ⟨z2,_⟩ | ⟨mm,hm,_⟩
       ·rw [Ua y hy,z,z2]
       ·exact X6 ⟨_,((aS.mp hl).1 _ hm).1⟩
      ·exact X6 ⟨_,((aS.mp ht).1 _ hm).1⟩
  ·by_cases xb:(cL e cV).lt x=true
   ·have hex:=lt_trans _ _ _ Bf xb;rw [oY,if_pos hex,if_neg hxs,Int.add_zero] at hx;exact zy.asymm d4 ⟨x,by rw [Ua x hex]; exact hx,fun y hy=>QG y (.inr hy) (lt_trans _ _ _ xb hy) hy⟩
   ·have hx0:=bM ht x;rw [oY,if_neg hxs,Int.add_zero] at hx;by_cases hex:e.lt x=true
    ·rw [if_pos hex] at hx;rcases cf hl x with ⟨z,_⟩ | ⟨mm,hm,_⟩
     ·omega
     ·rcases kr he ((aS.mp hl).1 _ hm).1 hC hex with h1 | h1
      ·exact hxs h1
      ·exact xb h1
    ·rw [if_neg hex] at hx; omega
def spd:Lad->Lad->Lad
 | .cons e m r,.nil=>.cons e m r
 | .nil,.nil=>.nil
 | .nil,k=>k
 | .cons e _ _,k=>.cons (cL e k) 1 .nil
end
end Lad
def WL (K:Qn):Sp:=fun vs H Q _=>∃ (v u:V) (e:Lad) (m:Int) (r k:Lad),vs=[v,u]/\LA K H v (.cons e m r)/\LA K H u k/\(Lad.cons e m r).deep<=30/\k.deep<=30/\(Lad.cons e m r).parts<=900000/\k.parts<=900000/\∀ (x:V) (H':Hp),SB [] H H'->LA K H' x (Lad.spd (.cons e m r) k)->Q x H'
def V2 (K:Qn):Sp:=fun vs H Q _=>∃ (v u:V) (l k:Lad),vs=[v,u]/\LA K H v l/\LA K H u k/\l.deep<=29/\k.deep<=29/\l.parts<=390000/\k.parts<=390000/\∀ (x:V) (H':Hp),SB [] H H'->LA K H' x (l.oU k)->Q x H'
theorem BQ (x:PyData):dataLt x x=false:=lex_irrefl (O:=itemOrd) _
theorem NJ {x y z:PyData} (h:dataLt x y=true) (h2:dataLt y z=true):dataLt x z=true:=lex_trans (O:=itemOrd) _ _ _ h h2
theorem zd0 {x y:PyData} (al:alike x y=true) (h:dataLt x y=false) (h2:dataLt y x=false):PyData.eqv x y=true:=by
 have e:keyToks x=keyToks y:=lex_total (O:=itemOrd) _ _ h h2;cases hq:PyData.eqv x y with
 | true=>rfl
 | false =>
  have t:=(toks_eqv x y al).2 hq [.inl 0] [.inl 1];rw [e] at t;have t2:PyProof.Rows.lexLt itemOrd (keyToks y++[.inl 0]) (keyToks y++[.inl 1])=PyProof.Rows.lexLt itemOrd [.inl 0] [.inl 1]:=lex_pre _ _ _;have t3:PyProof.Rows.lexLt itemOrd (keyToks y) (keyToks y)=false:=lex_irrefl (O:=itemOrd) _;rw [t2,t3,lex_one] at t
  revert t
  decide
theorem NV {x y:PyData} (h:dataLt x y=true):dataLt y x=false:=by
 cases e:dataLt y x with
 | false=>rfl
 | true=>have:=NJ h e; rw [BQ] at this; cases this
class Orderly {γ:Type} [DecidableEq γ] (enc:γ->PyData):Prop where
 al:∀ a b,alike (enc a) (enc b)=true
 eq:∀ a b,PyData.eqv (enc a) (enc b)=decide (a=b)
section
variable {γ:Type} [DecidableEq γ] {enc:γ->PyData} [O:Orderly enc]
theorem HS {a b:γ} (sh:a ≠ b) (h:dataLt (enc a) (enc b)=false):dataLt (enc b) (enc a)=true:=by
 cases e:dataLt (enc b) (enc a) with
 | true=>rfl
 | false =>
  have:=zd0 (O.al a b) h e;rw [O.eq] at this;exact absurd (Ks this) sh
theorem Vd {a b:γ} (h:dataLt (enc a) (enc b)=true):a ≠ b:=fun z=>by subst z; rw [BQ] at h; cases h
instance:Orderly (kR enc) where
 al a b:=by simp [kR,alike,alikeAll,O.al a.1 b.1]
 eq a b:=by
  simp only [kR,PyData.eqv,PyData.eqvAll,O.eq,Bool.and_true,ib];by_cases h:a=b
  ·subst h; simp
  ·rw [Qz h];rw [Bool.and_eq_false_iff];by_cases h1:a.1=b.1
   ·exact .inr (Qz fun h2=>h (Prod.ext h1 h2))
   ·exact .inl (Qz h1)
theorem zct (p q:γ × Int):dataLt (kR enc p) (kR enc q)=if p.1=q.1 then decide (p.2 < q.2) else dataLt (enc p.1) (enc q.1):=by
 unfold kR;rw [dataLt_pair (O.al p.1 q.1) (by simp [alike]),O.eq];by_cases h:p.1=q.1
 ·rw [if_pos (by simp [h]),if_pos h,dataLt_int];by_cases h2:p.2=q.2
  ·simp [PyData.eqv,h2]
  ·simp [PyData.eqv,h2]
 ·rw [if_neg (by simp [h]),if_neg h]
def nq (enc:γ->PyData) (bs:List γ):List γ:=bs.mergeSort (dataLe false enc)
theorem zS (bs:List γ):(nq enc bs).Perm bs:=List.mergeSort_perm _ _
theorem zfd (bs:List γ):(nq enc bs).Pairwise (fun a b=>dataLt (enc b) (enc a)=false):=by
 have h:=List.pairwise_mergeSort (le:=dataLe false enc) (fun a b c h1 h2=>?_) (fun a b=>?_) bs
 ·refine h.imp fun {a b} jr=>?_;rw [dataLe_eq] at jr;simpa using jr
 ·rw [dataLe_eq] at h1 h2 ⊢;simp only [cond_false,Bool.not_eq_true'] at h1 h2 ⊢;by_cases jr:a=b
  ·subst jr; exact h2
  ·by_cases Cf:b=c
   ·subst Cf; exact h1
   ·exact NV (NJ (HS (fun z=>jr z.symm) h1) (HS (fun z=>Cf z.symm) h2))
 ·rw [dataLe_eq];simp only [cond_false];cases e:dataLt (enc b) (enc a) with
  | false=>rfl
  | true=>rw [NV e]; rfl
def sumE (ps:List (γ × Int)) (x:γ):Int:=match ps with
 | []=>0
 | p::r=>(if p.1=x then p.2 else 0)+sumE r x
theorem Dg (x:γ):∀ (as bs:List (γ × Int)),sumE (as++bs) x=sumE as x+sumE bs x
 | [],bs=>by simp [sumE]
 | p::r,bs=>by show _+sumE (r++bs) x=_; rw [Dg x r bs,sumE]; omega
theorem zbp {as bs:List (γ × Int)} (h:as.Perm bs) (x:γ):sumE as x=sumE bs x:=by
 induction h with
 | nil=>rfl
 | cons y _ ih=>simp only [sumE]; omega
 | swap y z l=>simp only [sumE]; omega
 | trans _ _ h1 h2=>omega
theorem zbe (acc:List (γ × Int)) (p:γ × Int) (x:γ):sumE (fb acc p) x=sumE acc x+(if p.1=x then p.2 else 0):=by
 rcases List.eq_nil_or_concat acc with h | ⟨a,z,h⟩
 ·subst h; rw [xR]; simp [sumE]
 ·subst h;rw [List.concat_eq_append,pA];by_cases hz:z.1=p.1
  ·rw [if_pos hz,Dg,Dg];simp only [sumE,hz];by_cases hx:p.1=x
   ·simp only [if_pos hx]; omega
   ·simp only [if_neg hx]; omega
  ·rw [if_neg hz,Dg]; simp only [sumE]; omega
theorem zep (bs:List (γ × Int)) (x:γ):sumE (jn bs) x=sumE bs x:=by
 have key:∀ (bs acc:List (γ × Int)),sumE (bs.foldl fb acc) x=sumE acc x+sumE bs x:=by
  intro bs
  induction bs with
  | nil=>intro acc; simp [sumE]
  | cons p r ih =>
   intro acc;show sumE (r.foldl fb (fb acc p)) x=_;rw [ih,zbe,sumE]; omega
 have:=key bs [];simpa [jn,sumE] using this
theorem zeu {bs:List (γ × Int)} (h:bs.Pairwise (fun a b=>dataLt (enc b.1) (enc a.1)=false)):(jn bs).Pairwise (fun p q=>dataLt (enc p.1) (enc q.1)=true):=by
 have key:∀ (bs acc:List (γ × Int)),acc.Pairwise (fun p q=>dataLt (enc p.1) (enc q.1)=true)->(∀ a ∈ acc,∀ b ∈ bs,dataLt (enc b.1) (enc a.1)=false)->bs.Pairwise (fun a b=>dataLt (enc b.1) (enc a.1)=false)->(bs.foldl fb acc).Pairwise (fun p q=>dataLt (enc p.1) (enc q.1)=true):=by
  intro bs
  induction bs with
  | nil=>intro acc h _ _; exact h
  | cons p r ih =>
   intro acc h1 h2 h3;obtain ⟨Ta,S9⟩:=List.pairwise_cons.mp h3;refine ih (fb acc p) ?_ ?_ S9
   ·rcases List.eq_nil_or_concat acc with h | ⟨a,z,h⟩
    ·subst h; rw [xR]; exact List.pairwise_singleton _ _
    ·subst h;rw [List.concat_eq_append] at h1 h2 ⊢;rw [pA];obtain ⟨a1,_,a3⟩:=List.pairwise_append.mp h1;by_cases hz:z.1=p.1
     ·rw [if_pos hz,List.pairwise_append];refine ⟨a1,List.pairwise_singleton _ _,fun x hx y hy=>?_⟩;have AZ:y=(p.1,z.2+p.2):=by simpa using hy
      subst AZ;show dataLt (enc x.1) (enc p.1)=true;rw [<- hz]; exact a3 x hx z (by simp)
     ·rw [if_neg hz,List.pairwise_append];refine ⟨h1,List.pairwise_singleton _ _,fun x hx y hy=>?_⟩;have AZ:y=p:=by simpa using hy
      subst AZ;have Jf:dataLt (enc z.1) (enc y.1)=true:=HS (fun q=>hz q.symm) (h2 z (by simp) y (bF ..));rcases Qw hx with hx | hx
      ·exact NJ (a3 x hx z (by simp)) Jf
      ·have F3:x=z:=by simpa using hx
       subst F3; exact Jf
   ·intro a ha b hb;have sX:=Ta b hb;rcases List.eq_nil_or_concat acc with h | ⟨c,z,h⟩
    ·subst h;rw [xR] at ha;have:a=p:=by simpa using ha
     subst this; exact sX
    ·subst h;rw [List.concat_eq_append] at ha h2;rw [pA] at ha;by_cases hz:z.1=p.1
     ·rw [if_pos hz] at ha;rcases Qw ha with ha | ha
      ·exact h2 a (i8 _ ha) b (bX _ hb)
      ·have:a=(p.1,z.2+p.2):=by simpa using ha
       subst this; exact sX
     ·rw [if_neg hz] at ha;rcases Qw ha with ha | ha
      ·exact h2 a ha b (bX _ hb)
      ·have:a=p:=by simpa using ha
       subst this; exact sX
 exact key bs [] List.Pairwise.nil (by simp) h
theorem zdd (bs:List (γ × Int)):(nq (kR enc) bs).Pairwise (fun a b=>dataLt (enc b.1) (enc a.1)=false):=by
 refine (zfd (enc:=kR enc) bs).imp fun {a b} jr=>?_;rw [zct] at jr;by_cases h:b.1=a.1
 ·rw [h]; exact BQ _
 ·rw [if_neg h] at jr; exact jr
def xU (enc:γ->PyData) (bs:List (γ × Int)):List (γ × Int):=jn (nq (kR enc) bs)
theorem Wc (bs:List (γ × Int)):(xU enc bs).Pairwise (fun p q=>dataLt (enc p.1) (enc q.1)=true):=zeu (zdd bs)
theorem Ph (bs:List (γ × Int)) (x:γ):sumE (xU enc bs) x=sumE bs x:=by
 unfold xU;rw [zep,zbp (zS bs)]
theorem Iq (bs:List (γ × Int)):∀ p ∈ xU enc bs,∃ q ∈ bs,q.1=p.1:=fun p hp=>by
 obtain ⟨q,hq,e⟩:=BL _ p hp;exact ⟨q,(zS bs).mem_iff.mp hq,e⟩
def cP:List (γ × Int)->Int
 | []=>0
 | p::r=>p.2+cP r
theorem NZ:∀ as bs:List (γ × Int),cP (as++bs)=cP as+cP bs
 | [],bs=>by simp [cP]
 | p::r,bs=>by show _+cP (r++bs)=_; rw [NZ r bs,cP]; omega
theorem zcd {as bs:List (γ × Int)} (h:as.Perm bs):cP as=cP bs:=by
 induction h with
 | nil=>rfl
 | cons y _ ih=>simp only [cP]; omega
 | swap y z l=>simp only [cP]; omega
 | trans _ _ h1 h2=>omega
theorem zgp (bs:List (γ × Int)):cP (jn bs)=cP bs:=by
 have key:∀ (bs acc:List (γ × Int)),cP (bs.foldl fb acc)=cP acc+cP bs:=by
  intro bs
  induction bs with
  | nil=>intro acc; simp [cP]
  | cons p r ih =>
   intro acc;show cP (r.foldl fb (fb acc p))=_;rw [ih];have e:cP (fb acc p)=cP acc+p.2:=by
    rcases List.eq_nil_or_concat acc with h | ⟨a,z,h⟩
    ·subst h; rw [xR]; simp [cP]
    ·subst h;rw [List.concat_eq_append,pA]
     split
     ·rw [NZ,NZ]; simp only [cP]; omega
     ·rw [NZ]; simp only [cP]; omega
   rw [e,cP]; omega
 have:=key bs [];simpa [jn,cP] using this
theorem zii {bs:List (γ × Int)} (h:∀ p ∈ bs,1<=p.2):∀ p ∈ jn bs,1<=p.2:=by
 have key:∀ (bs acc:List (γ × Int)),(∀ p ∈ acc,1<=p.2)->(∀ p ∈ bs,1<=p.2)->∀ p ∈ bs.foldl fb acc,1<=p.2:=by
  intro bs
  induction bs with
  | nil=>intro acc h _; exact h
  | cons p r ih =>
   intro acc h1 h2;refine ih (fb acc p) (fun q hq=>?_) fun q hq=>h2 q (bX _ hq);have hp:=h2 p (bF ..);rcases List.eq_nil_or_concat acc with h | ⟨a,z,h⟩
   ·subst h;rw [xR] at hq;have:q=p:=by simpa using hq
    subst this; exact hp
   ·subst h;rw [List.concat_eq_append] at h1 hq;rw [pA] at hq;have hz:=h1 z (by simp);by_cases e:z.1=p.1
    ·rw [if_pos e] at hq;rcases Qw hq with hq | hq
     ·exact h1 q (i8 _ hq)
     ·have:q=(p.1,z.2+p.2):=by simpa using hq
      subst this; show 1<=z.2+p.2; omega
    ·rw [if_neg e] at hq;rcases Qw hq with hq | hq
     ·exact h1 q hq
     ·have:q=p:=by simpa using hq
      subst this; exact hp
 exact key bs [] (by simp) h
theorem zhi {bs:List (γ × Int)} (h:∀ p ∈ bs,1<=p.2):∀ p ∈ bs,p.2<=cP bs:=by
 induction bs with
 | nil=>intro p hp; cases hp
 | cons a r ih =>
  intro p hp;have hr:0<=cP r:=by
   clear ih hp;have:∀ p ∈ r,1<=p.2:=fun p hp=>h p (bX _ hp);clear h
   induction r with
   | nil=>exact Kw _
   | cons b r ih2 =>
    have h1:=this b (bF ..);have h2:=ih2 fun p hp=>this p (bX _ hp);show 0<=b.2+cP r; omega
  have ha:=h a (bF ..);rcases Qv hp with hp | hp
  ·subst hp; show p.2<=p.2+cP r; omega
  ·have:=ih (fun p hp=>h p (bX _ hp)) p hp;show p.2<=a.2+cP r; omega
theorem VR {bs:List (γ × Int)} (h:∀ p ∈ bs,1<=p.2):∀ p ∈ xU enc bs,1<=p.2/\p.2<=cP bs:=fun p hp=>by
 have h0:∀ p ∈ nq (kR enc) bs,1<=p.2:=fun p hp=>h p ((zS bs).mem_iff.mp hp);have h1:=zii h0;refine ⟨h1 p hp,?_⟩;have h2:=zhi h1 p hp;rw [zgp,zcd (zS bs)] at h2;exact h2
end
inductive Gr where
 | nil
 | cons (k:Str) (g:Gr) (m:Int) (r:Gr)
 deriving DecidableEq
abbrev Tr:=Str × Gr
def fm (k:Str):Prop:=1<=k.cps.toList.length/\k.cps.toList.length<=8/\∀ c ∈ k.cps.toList,97<=c/\c<=122
namespace Gr
def encs:Gr->List PyData
 | .nil=>[]
 | .cons k g m r=>.tuple [.tuple [.str k,.tuple g.encs],.int m]::r.encs
def enc (g:Gr):PyData:=.tuple g.encs
def aC (t:Tr):PyData:=.tuple [.str t.1,t.2.enc]
abbrev aG:Tr × Int->PyData:=kR aC
def ps:Gr->List (Tr × Int)
 | .nil=>[]
 | .cons k g m r=>((k,g),m)::r.ps
def ofPs:List (Tr × Int)->Gr
 | []=>.nil
 | p::r=>.cons p.1.1 p.1.2 p.2 (ofPs r)
theorem aD:∀ g:Gr,ofPs g.ps=g
 | .nil=>rfl
 | .cons k g m r=>by show Gr.cons k g m (ofPs r.ps)=_; rw [aD r]
theorem a9:∀ bs:List (Tr × Int),(ofPs bs).ps=bs
 | []=>rfl
 | p::r=>by show ((p.1.1,p.1.2),p.2)::(ofPs r).ps=_; rw [a9 r]
theorem dX:∀ g:Gr,g.encs=g.ps.map aG
 | .nil=>rfl
 | .cons k g m r=>by show _::r.encs=_::r.ps.map aG; rw [dX r]; rfl
def parts:Gr->Nat
 | .nil=>0
 | .cons _ g _ r=>1+g.parts+r.parts
def deep:Gr->Nat
 | .nil=>0
 | .cons _ g _ r=>max (1+g.deep) r.deep
def tot:List (Tr × Int)->Nat
 | []=>0
 | p::r=>1+p.1.2.parts+tot r
theorem aK:∀ bs:List (Tr × Int),(ofPs bs).parts=tot bs
 | []=>rfl
 | p::r=>by show 1+p.1.2.parts+(ofPs r).parts=1+p.1.2.parts+tot r; rw [aK r]
theorem lM (g:Gr):tot g.ps=g.parts:=by rw [<- aK,aD]
theorem aU:∀ bs cs:List (Tr × Int),tot (bs++cs)=tot bs+tot cs
 | [],cs=>by simp [tot]
 | p::r,cs=>by show 1+p.1.2.parts+tot (r++cs)=_; rw [aU r cs,tot]; omega
theorem jE {bs cs:List (Tr × Int)} (h:bs.Perm cs):tot bs=tot cs:=by
 induction h with
 | nil=>rfl
 | cons x _ ih=>simp only [tot]; omega
 | swap x y l=>simp only [tot]; omega
 | trans _ _ h1 h2=>omega
theorem vB:∀ bs:List (Tr × Int),bs.length<=tot bs
 | []=>Yc _
 | p::r=>by have:=vB r; show r.length+1<=1+p.1.2.parts+tot r; omega
theorem pF (bs:List (Tr × Int)):tot (jn bs)<=tot bs:=by
 have key:∀ (bs acc:List (Tr × Int)),tot (bs.foldl fb acc)<=tot acc+tot bs:=by
  intro bs
  induction bs with
  | nil=>intro acc; simp [tot]
  | cons x r ih =>
   intro acc;have h1:=ih (fb acc x);have h2:tot (fb acc x)<=tot acc+(1+x.1.2.parts):=by
    rcases List.eq_nil_or_concat acc with h | ⟨a,z,h⟩
    ·subst h; simp [xR,tot]
    ·subst h;rw [List.concat_eq_append,pA];by_cases hz:z.1=x.1
     ·rw [if_pos hz,aU,aU]; simp only [tot]; rw [hz]; omega
     ·rw [if_neg hz,aU,aU]; simp only [tot]; omega
   show tot (r.foldl fb (fb acc x))<=tot acc+(1+x.1.2.parts+tot r);omega
 have:=key bs [];simpa [jn,tot] using this
theorem aA:∀ (g:Gr) (p:Tr × Int),p ∈ g.ps->p.1.2.deep < g.deep
 | .nil,p,h=>by cases h
 | .cons k g m r,p,h=>by
  rcases Qv h with h | h
  ·subst h; show g.deep < max (1+g.deep) r.deep; omega
  ·have:=aA r p h; show _ < max (1+g.deep) r.deep; omega
theorem bA:∀ (g:Gr) (p:Tr × Int),p ∈ g.ps->p.1.2.parts < g.parts
 | .nil,p,h=>by cases h
 | .cons k g m r,p,h=>by
  rcases Qv h with h | h
  ·subst h; show g.parts < 1+g.parts+r.parts; omega
  ·have:=bA r p h; show _ < 1+g.parts+r.parts; omega
theorem lG {n:Nat}:∀ {g:Gr},(∀ p ∈ g.ps,p.1.2.deep < n)->g.deep<=n
 | .nil,_=>Nat.zero_le _
 | .cons k g m r,h=>by
  have h1:=h ((k,g),m) (bF ..);have h2:=lG (g:=r) fun p hp=>h p (bX _ hp);show max (1+g.deep) r.deep<=n;have:g.deep < n:=h1;omega
theorem aN (g:Gr):g.ps.length<=g.parts:=by have:=vB g.ps; rw [lM] at this; exact this
theorem jw:∀ g h:Gr,alikeAll g.encs h.encs=true
 | .nil,_=>by simp [encs,alikeAll]
 | .cons _ _ _ _,.nil=>by simp [encs,alikeAll]
 | .cons k g m r,.cons k' g' m' r'=>by
  have h1:=jw g g';have h2:=jw r r';simp [encs,alikeAll,alike,h1,h2]
theorem dN (g h:Gr):alike g.enc h.enc=true:=by
 show alike (.tuple g.encs) (.tuple h.encs)=true;rw [alike]; exact jw g h
theorem sb (a b:Str):(a == b)=decide (a=b):=by by_cases h:a=b <;> simp [h]
theorem uN:∀ g h:Gr,PyData.eqvAll g.encs h.encs=decide (g=h)
 | .nil,.nil=>by simp [encs,PyData.eqvAll]
 | .nil,.cons _ _ _ _=>by simp [encs,PyData.eqvAll]
 | .cons _ _ _ _,.nil=>by simp [encs,PyData.eqvAll]
 | .cons k g m r,.cons k' g' m' r'=>by
  have h1:=uN g g';have h2:=uN r r';simp [encs,PyData.eqvAll,PyData.eqv,h1,h2,Bool.and_assoc,ib,sb]
theorem bw (g h:Gr):PyData.eqv g.enc h.enc=decide (g=h):=by
 rw [enc,enc,PyData.eqv]; exact uN g h
instance:Orderly aC where
 al a b:=by simp [aC,alike,alikeAll,dN]
 eq a b:=by
  simp only [aC,PyData.eqv,PyData.eqvAll,bw,Bool.and_true,sb];by_cases h:a=b
  ·subst h; simp
  ·rw [Qz h,Bool.and_eq_false_iff];by_cases h1:a.1=b.1
   ·exact .inr (Qz fun h2=>h (Prod.ext h1 h2))
   ·exact .inl (Qz h1)
theorem cw:∀ g:Gr,ki g.encs=true
 | .nil=>by simp [encs,ki]
 | .cons k g m r=>by simp [encs,ki,gH,cw g,cw r]
theorem ag (g:Gr):gH g.enc=true:=by simp [enc,gH,cw g]
theorem ay (t:Tr):gH (aC t)=true:=by simp [aC,gH,ki,ag]
theorem aj (p:Tr × Int):gH (aG p)=true:=by simp [aG,kR,gH,ki,ay]
theorem cy:∀ g:Gr,PyData.depthAll g.encs<=3*g.deep
 | .nil=>by simp [encs,PyData.depthAll,deep]
 | .cons k g m r=>by
  have h1:=cy g;have h2:=cy r;simp only [encs,PyData.depthAll,PyData.depth,deep];omega
theorem eM (g:Gr):g.enc.depth<=3*g.deep+1:=by
 have:=cy g;simp only [enc,PyData.depth];omega
theorem je (t:Tr):(aC t).depth<=3*t.2.deep+2:=by
 have:=eM t.2;simp only [aC,PyData.depth,PyData.depthAll]; omega
theorem eH (p:Tr × Int):(aG p).depth<=3*p.1.2.deep+3:=by
 have:=je p.1;simp only [aG,kR,PyData.depth,PyData.depthAll]; omega
def Ok (C:Int):Gr->Prop
 | .nil=>True
 | .cons k g m r=>fm k/\g.Ok C/\1<=m/\m < C/\r.Ok C/\∀ p ∈ r.ps,dataLt (aC (k,g)) (aC p.1)=true
theorem Ok.mono {B C:Int} (h:B<=C):∀ {g:Gr},g.Ok B->g.Ok C
 | .nil,_=>trivial
 | .cons k g m r,⟨h0,h1,h2,h3,h4,h5⟩=>⟨h0,Ok.mono h h1,h2,by omega,Ok.mono h h4,h5⟩
theorem fe {C:Int}:∀ {bs:List (Tr × Int)},(ofPs bs).Ok C ↔ (∀ p ∈ bs,fm p.1.1/\p.1.2.Ok C/\1<=p.2/\p.2 < C)/\bs.Pairwise (fun p q=>dataLt (aC p.1) (aC q.1)=true)
 | []=>by simp [ofPs,Ok]
 | x::r=>by
  have ih:=fe (C:=C) (bs:=r);show (fm x.1.1/\x.1.2.Ok C/\1<=x.2/\x.2 < C/\(ofPs r).Ok C/\∀ p ∈ (ofPs r).ps,dataLt (aC x.1) (aC p.1)=true) ↔ _;rw [a9,List.pairwise_cons,ih];constructor
  ·rintro ⟨h0,h1,h2,h3,⟨h4,h5⟩,h6⟩
   refine ⟨fun p hp=>?_,h6,h5⟩;rcases Qv hp with hp | hp
   ·subst hp; exact ⟨h0,h1,h2,h3⟩
   ·exact h4 p hp
  ·rintro ⟨h1,h2,h3⟩
   have h4:=h1 x (bF ..);exact ⟨h4.1,h4.2.1,h4.2.2.1,h4.2.2.2,⟨fun p hp=>h1 p (bX _ hp),h3⟩,h2⟩
theorem aS {C:Int} {g:Gr}:g.Ok C ↔ (∀ p ∈ g.ps,fm p.1.1/\p.1.2.Ok C/\1<=p.2/\p.2 < C)/\g.ps.Pairwise (fun p q=>dataLt (aC p.1) (aC q.1)=true):=by
 have:=fe (C:=C) (bs:=g.ps);rw [aD] at this;exact this
theorem eF {k:Str} (h:fm k):PySem.PyData.strOk k=true:=by
 show k.cps.all (· < 0x110000)=true;rw [Array.all_eq_true'];intro c hc;have:=h.2.2 c (by simpa using hc);simp; omega
theorem mw {C:Int}:∀ {g:Gr},g.Ok C->PyData.canLayAll0 g.encs=true
 | .nil,_=>by simp [encs,PyData.canLayAll0]
 | .cons k g m r,⟨h0,h1,_,_,h4,_⟩=>by
  have e1:=mw h1;have e2:=mw h4;simp [encs,PyData.canLayAll0,PyData.canLay0,e1,e2,eF h0]
theorem kS {C:Int} {t:Tr} (h0:fm t.1) (h:t.2.Ok C) (hd:t.2.deep<=20):SeqAt.shaped (aC t)=true:=by
 have:=je t;unfold SeqAt.shaped;rw [show (aC t).canLay0=true by simp [aC,PyData.canLay0,PyData.canLayAll0,eF h0,enc,mw h]];simp; omega
theorem jO (bs:List (Tr × Int)):AllAlike (bs.map aG):=AllAlike.of fun a b=>Orderly.al (enc:=aG) a b
theorem eV (bs:List (Tr × Int)):Sortable (bs.map aG):=Sortable.tuples fun b=>⟨_,_,rfl⟩
def tidy (bs:List (Tr × Int)):Gr:=ofPs (xU aC bs)
theorem lP (bs:List (Tr × Int)):(tidy bs).parts<=tot bs:=by
 unfold tidy;rw [aK];have h1:=pF (nq (kR aC) bs);rw [jE (zS bs)] at h1;exact h1
theorem n8 {bs:List (Tr × Int)} (h:∀ p ∈ bs,p.1.2.deep < n):(tidy bs).deep<=n:=by
 refine lG fun p hp=>?_;unfold tidy at hp;rw [a9] at hp;obtain ⟨q,hq,e⟩:=Iq bs p hp;rw [<- e]; exact h q hq
theorem As {C:Int} {bs:List (Tr × Int)} (h:∀ p ∈ bs,fm p.1.1/\p.1.2.Ok C/\1<=p.2) (hD:cP bs < D) (hCD:C<=D):(tidy bs).Ok D:=by
 unfold tidy;rw [fe];refine ⟨fun p hp=>?_,Wc bs⟩;obtain ⟨q,hq,e⟩:=Iq bs p hp;have sW:=h q hq;obtain ⟨h1,h2⟩:=VR (enc:=aC) (fun p hp=>(h p hp).2.2) p hp;rw [<- e];exact ⟨sW.1,sW.2.1.mono hCD,h1,by omega⟩
end Gr
def GA (K:Qn) (H:Hp) (v:V) (g:Gr):Prop:=Dp K H v g.enc
section
variable {K:Qn} {ps:List Addr} {H H':Hp} {v:V} {g:Gr}
theorem GA.sb (h:GA K H v g) (e:SB ps H H'):GA K H' v g:=fK e _ _ g.ag h
theorem pz (h:GA K H v g):∃ a xs,v=.ref a/\SqT K H a xs/\Bears K H Gr.aG xs g.ps:=by
 have h':Dp K H v (.tuple g.encs):=h;cases h' with
 | tup hs ha =>
  rw [Gr.dX] at ha;exact ⟨_,_,Ja,hs,Bears.of ha⟩
theorem Il {bs:List (Tr × Int)} (h:SqT K H a xs) (hb:Bears K H Gr.aG xs bs):GA K H (.ref a) (Gr.ofPs bs):=by
 refine Dp.tup h ?_;rw [Gr.dX,Gr.a9];exact hb.dp
theorem HR (h:SqT K H p []):GA K H (.ref p) .nil:=Dp.tup h .nil
theorem PR {t:Tr} (h:Dp K H v (Gr.aC t)):∃ a u,v=.ref a/\SqT K H a [.str t.1,u]/\GA K H u t.2:=by
 cases h with
 | tup hs ha =>
  cases ha with
  | cons h1 h2 =>
   cases h2 with
   | cons h3 h4 =>
    cases h4;cases h1;exact ⟨_,_,Ja,hs,h3⟩
theorem nj {p:Tr × Int} (h:Dp K H v (Gr.aG p)):∃ a b u,v=.ref a/\SqT K H a [.ref b,.int p.2]/\SqT K H b [.str p.1.1,u]/\GA K H u p.1.2/\Dp K H (.ref b) (Gr.aC p.1):=by
 cases h with
 | tup hs ha =>
  cases ha with
  | cons h1 h2 =>
   cases h2 with
   | cons h3 h4 =>
    cases h4;cases h3;obtain ⟨b,u,rfl,hb,hg⟩:=PR h1;exact ⟨_,b,u,Ja,hs,hb,hg,h1⟩
end
def VW (K:Qn):Sp:=fun vs H Q _=>∃ (a:Addr) (xs:List V) (bs:List (Tr × Int)),vs=[.ref a]/\(SqL K H a xs\/SqT K H a xs)/\Bears K H Gr.aG xs bs/\bs.length<=1000/\(∃ C,∀ p ∈ bs,fm p.1.1/\p.1.2.Ok C/\p.1.2.deep<=18) /\
 ∀ (v:V) (H':Hp),SB [] H H'->GA K H' v (Gr.tidy bs)->Q v H'
def jz (z:Str) (n:Nat):Prop:=z.cps.toList.length=n/\∀ c ∈ z.cps.toList,97<=c/\c<=122
theorem jz.name (h:jz z n) (h1:1<=n) (h8:n<=8):fm z:=⟨by have:=h.1; omega,by have:=h.1; omega,h.2⟩
theorem jz.len (h:jz z n):z.length=n:=by have:=h.1; simpa [Str.length] using this
theorem jz.one {c:Nat} (h:97<=c/\c<=122):jz ⟨#[c]⟩ 1:=⟨rfl,fun x hx=>by simp at hx; subst hx; exact h⟩
theorem jz.append {a b:Str} {m:Nat} (ha:jz a n) (hb:jz b m):jz (a++b) (n+m):=by
 have e:(a++b).cps.toList=a.cps.toList++b.cps.toList:=by show (a.cps++b.cps).toList=_; simp
 unfold jz;rw [e,Yf,ha.1,hb.1];refine ⟨rfl,fun c hc=>?_⟩;rcases Qw hc with hc | hc
 ·exact ha.2 c hc
 ·exact hb.2 c hc
theorem jz.take {z:Str} {n:Nat} (h:jz z n) (k:Nat):jz (cutS z none (some (k:Int))) (min k n):=by
 have hl:=h.len;have e:(cutS z none (some (k:Int))).cps.toList=z.cps.toList.take (min k n):=by
  unfold cutS;rw [HT.sIx_none,HT.sIx_nat,hl];simp
 unfold jz;rw [e,Kx,h.1];exact ⟨by omega,fun c hc=>h.2 c (List.mem_of_mem_take hc)⟩
theorem WR:∀ (cs:List Nat) (acc:Array Nat),((cs.map fun c=>(⟨#[c]⟩:Str)).foldl (fun acc p=>acc++(Str.ofString "").cps++p.cps) acc).toList=acc.toList++cs
 | [],acc=>by simp
 | c::cs,acc=>by
  have e0:(Str.ofString "").cps=#[]:=by decide +kernel
  rw [Ky,List.foldl_cons,WR cs];simp [e0]
theorem zbr (cs:List Nat) (h:∀ c ∈ cs,97<=c/\c<=122):jz (Txt.join (Str.ofString "") (cs.map fun c=>⟨#[c]⟩)) cs.length:=by
 have e:(Txt.join (Str.ofString "") (cs.map fun c=>(⟨#[c]⟩:Str))).cps.toList=cs:=by
  show (Builtin.Str.glued (Str.ofString "") (cs.map fun c=>(⟨#[c]⟩:Str))).cps.toList=cs;unfold Builtin.Str.glued;cases cs with
  | nil=>rfl
  | cons c r =>
   show ((r.map fun c=>(⟨#[c]⟩:Str)).foldl (fun acc p=>acc++(Str.ofString "").cps++p.cps) #[c]).toList=c::r;rw [WR]
   rfl
 unfold jz;rw [e];exact ⟨rfl,h⟩
abbrev ti:Str:=Str.ofString "abcdefghijklmnopqrstuvwxyz"
theorem zgc:∀ r:Nat,r < 26->∃ c,ti.cps.toList[r]?=some c/\97<=c/\c<=122:=by
 have:∀ r:Fin 26,∃ c:Fin 200,ti.cps.toList[r.val]?=some c.val/\97<=c.val/\c.val<=122:=by decide +kernel
 intro r hr;obtain ⟨c,h⟩:=this ⟨r,hr⟩;exact ⟨c.val,h⟩
theorem VI:ti.length<=sizeLine:=by decide +kernel
theorem NU {xs:List Nat} {j:Nat} {c:Nat} (h:xs[j]?=some c):atI xs (j:Int)=some c:=by
 have hj:j < xs.length:=(Kq h).1;unfold atI ixN;rw [if_pos (by omega),if_pos (by omega)];simpa using h
def zdf (K:Qn) {β:Type} (enc:β->PyData) (vs:List V) (H:Hp) (Q:VK):Prop:=∃ (a:Addr) (xs:List V) (bs:List β),vs=[V.ref a]/\(SqL K H a xs\/SqT K H a xs)/\Bears K H enc xs bs/\AllAlike (bs.map enc)/\Sortable (bs.map enc)/\bs.length<=10000000/\(∀ b ∈ bs,(enc b).depth<=100) /\
 ∀ (p:Addr) (ys:List V),H p=none->Bears K H enc ys (bs.mergeSort (dataLe false enc))->Q (.ref p) (upd H p (.lst ys))
theorem zba {X:Cx} {β:Type} (enc:β->PyData) (hu:X.A.units+110 < cLine):CallR X (.builtin "sorted") (zdf X.K enc):=by
 intro pins s σ H vs us Q I r h;obtain ⟨a,xs,bs,h1,h2,h3⟩:=h;rcases h2 with h2 | h2
 ·exact zb3 enc hu pins s σ H vs us Q I r ⟨a,xs,bs,h1,h2,h3⟩
 ·exact zbk enc hu pins s σ H vs us Q I r ⟨a,xs,bs,h1,h2,h3⟩
theorem Gr.rD {bs:List (Tr × Int)} (h:∃ C,∀ b ∈ bs,fm b.1.1/\b.1.2.Ok C/\b.1.2.deep<=18):SeqAt.shaped (.list (bs.map Gr.aG))=true:=by
 obtain ⟨C,h⟩:=h;have h1:PyData.canLayAll0 (bs.map Gr.aG)=true:=by
  induction bs with
  | nil=>simp [PyData.canLayAll0]
  | cons b r ih =>
   have e:=ih fun c hc=>h c (bX _ hc);obtain ⟨n,o,_⟩:=h b (bF ..);rw [Ky,PyData.canLayAll0,e];simp [Gr.aG,kR,Gr.aC,PyData.canLay0,PyData.canLayAll0,Gr.enc,Gr.mw o,Gr.eF n]
 have h2:PyData.depthAll (bs.map Gr.aG)<=57:=by
  clear h1
  induction bs with
  | nil=>simp [PyData.depthAll]
  | cons b r ih =>
   have e1:=ih (fun c hc=>h c (bX _ hc));have e2:=(h b (bF ..)).2.2;have e3:=Gr.eH b;rw [Ky,PyData.depthAll];omega
 have h3:(PyData.list (bs.map Gr.aG)).depth=PyData.depthAll (bs.map Gr.aG)+1:=by simp [PyData.depth]
 unfold SeqAt.shaped;rw [PyData.canLay0,h1,Bool.true_and];exact Ya (by omega)
namespace Gr
def within:Gr->List (Tr × Int)
 | .nil=>[]
 | .cons k g m r=>((k,g),m)::(g.within++r.within)
theorem eE:∀ g:Gr,g.within=g.ps.flatMap fun p=>p::p.1.2.within
 | .nil=>rfl
 | .cons k g m r=>by show ((k,g),m)::(g.within++r.within)=_; rw [eE r]; rfl
theorem bG:∀ g:Gr,g.within.length=g.parts
 | .nil=>rfl
 | .cons k g m r=>by show (g.within++r.within).length+1=1+g.parts+r.parts; rw [Yf,bG g,bG r]; omega
theorem vV:∀ h:Gr,0 < h.deep->∃ p ∈ h.ps,p.1.2.deep+1=h.deep
 | .nil,h=>by simp [deep] at h
 | .cons k g m r,_=>by
  by_cases hr:r.deep<=1+g.deep
  ·exact ⟨((k,g),m),bF ..,by show g.deep+1=max (1+g.deep) r.deep; omega⟩
  ·obtain ⟨p,hp,e2⟩:=vV r (by omega);exact ⟨p,bX _ hp,by show p.1.2.deep+1=max (1+g.deep) r.deep; omega⟩
theorem y9 (g:Gr) (m:Int) (hm:m ∈ (g.ps.map fun p=>(p.1.2.deep:Int))) (hy:∀ a,a ∈ (g.ps.map fun p=>(p.1.2.deep:Int))->a<=m):(1:Int)+m=(g.deep:Int):=by
 obtain ⟨p,hp,rfl⟩:=Qx hm;have h1:=g.aA p hp;obtain ⟨q,hq,e⟩:=g.vV (by omega);have:=hy _ (Ku ⟨q,hq,rfl⟩);omega
theorem oo {x:Int} (h0:0<=x) (h:x < 2 ^ n):x.natAbs < 2 ^ n:=by
 have h2:((x.natAbs:Nat):Int)=x:=Int.natAbs_of_nonneg h0;have h3:((2 ^ n:Nat):Int)=(2:Int) ^ n:=by rw [Int.natCast_pow]; rfl
 exact Int.ofNat_lt.mp (by rw [h2,h3]; exact h)
end Gr
def BO (K:Qn) (n:Nat):Sp:=fun vs H Q _=>∃ (v:V) (g:Gr),vs=[v]/\GA K H v g/\g.deep < n/\g.parts<=200000/\∀ (D:Addr) (us:List V) (H':Hp),SB [] H H'->H D=none->H' D=some (.lst us)->Bears K H' Gr.aG us g.within->Q (.ref D) H'
def Xa (K:Qn) (n:Nat):Sp:=fun vs H Q _=>∃ (v:V) (g:Gr),vs=[v]/\GA K H v g/\g.deep < n/\g.parts<=200000/\∀ H',SB [] H H'->Q (.int (g.parts:Nat)) H'
def FG (K:Qn) (n:Nat):Sp:=fun vs H Q _=>∃ (v:V) (g:Gr),vs=[v]/\GA K H v g/\g.deep < n/\g.parts<=200000/\∀ H',SB [] H H'->Q (.int (g.deep:Nat)) H'
section
variable {P:Program} {w:World} {K:Qn} {mg:Str->Option Value} {base:Heap} {f:Addr} {fd:FuncData}
theorem zde {ps:List Str}:FnOk P w K mg base CX0 k f fd ps (BO K 0):=BM fun vs H Q E ⟨v,l,_,_,h,_⟩=>by omega
theorem zdb {ps:List Str}:FnOk P w K mg base CX0 k f fd ps (FG K 0):=BM fun vs H Q E ⟨v,l,_,_,h,_⟩=>by omega
end
mutual
def plS:PyData->Bool
 | .int _=>true
 | .str x=>PyData.strOk x
 | .tuple ds=>plSs ds
 | _=>false
def plSs:List PyData->Bool
 | []=>true
 | d::ds=>plS d&&plSs ds
end
mutual
theorem VO:∀ d:PyData,plS d=true->d.canLay0=true
 | .int _,_=>by simp [PyData.canLay0]
 | .str _,h=>by rw [plS] at h; rw [PyData.canLay0]; exact h
 | .tuple ds,h=>by rw [plS] at h; rw [PyData.canLay0]; exact Wa ds h
 | .none,h=>by simp [plS] at h
 | .bool _,h=>by simp [plS] at h
 | .list _,h=>by simp [plS] at h
 | .dict _,h=>by simp [plS] at h
theorem Wa:∀ ds:List PyData,plSs ds=true->PyData.canLayAll0 ds=true
 | [],_=>by simp [PyData.canLayAll0]
 | d::ds,h=>by
  rw [plSs,Bool.and_eq_true] at h;rw [PyData.canLayAll0,VO d h.1,Wa ds h.2]; rfl
end
namespace Gr
def kf (g k:Gr):Gr:=tidy (g.ps++k.ps)
theorem tI (g k:Gr):(kf g k).ps=xU aC (g.ps++k.ps):=a9 _
theorem kq (g k:Gr):(kf g k).parts<=g.parts+k.parts:=by
 have:=lP (g.ps++k.ps);rw [aU,lM,lM] at this;exact this
theorem jF {g k:Gr} (hg:g.deep<=n) (hk:k.deep<=n):(kf g k).deep<=n:=n8 fun p hp=>by
 rcases Qw hp with h | h
 ·have:=g.aA p h; omega
 ·have:=k.aA p h; omega
abbrev S (g:Gr) (t:Tr):Int:=sumE g.ps t
theorem zw (g k:Gr) (t:Tr):S (kf g k) t=S g t+S k t:=by
 show sumE (kf g k).ps t=_;rw [tI,Ph,Dg]
theorem jy {bs:List (Tr × Int)} {t:Tr} (h:∀ p ∈ bs,p.1 ≠ t):sumE bs t=0:=by
 induction bs with
 | nil=>rfl
 | cons p r ih =>
  show (if p.1=t then p.2 else 0)+sumE r t=0;rw [if_neg (h p (bF ..)),ih fun q hq=>h q (bX _ hq)]; rfl
theorem yW:∀ {as bs:List (Tr × Int)},as.Pairwise (fun p q=>dataLt (aC p.1) (aC q.1)=true)->bs.Pairwise (fun p q=>dataLt (aC p.1) (aC q.1)=true)->(∀ p ∈ as,1<=p.2)->(∀ p ∈ bs,1<=p.2)->(∀ t,sumE as t=sumE bs t)->as=bs
 | [],[],_,_,_,_,_=>rfl
 | [],b::bs,_,h2,_,p2,h=>by
  have:=h b.1;have hz:sumE bs b.1=0:=jy fun q hq z=>by have:=(List.pairwise_cons.mp h2).1 q hq; rw [z,BQ] at this; cases this
  have e:sumE (b::bs) b.1=b.2+sumE bs b.1:=by show (if b.1=b.1 then b.2 else 0)+_=_; rw [if_pos rfl]
  rw [e,hz] at this;have:=p2 b (bF ..);have z:sumE ([]:List (Tr × Int)) b.1=0:=rfl;omega
 | a::as,[],h1,_,p1,_,h=>by
  have:=h a.1;have hz:sumE as a.1=0:=jy fun q hq z=>by have:=(List.pairwise_cons.mp h1).1 q hq; rw [z,BQ] at this; cases this
  have e:sumE (a::as) a.1=a.2+sumE as a.1:=by show (if a.1=a.1 then a.2 else 0)+_=_; rw [if_pos rfl]
  rw [e,hz] at this;have:=p1 a (bF ..);have z:sumE ([]:List (Tr × Int)) a.1=0:=rfl;omega
 | a::as,b::bs,h1,h2,p1,p2,h=>by
  obtain ⟨a1,a2⟩:=List.pairwise_cons.mp h1;obtain ⟨b1,b2⟩:=List.pairwise_cons.mp h2;have pa:=p1 a (bF ..);have pb:=p2 b (bF ..);have za:∀ t,(t=a.1\/dataLt (aC t) (aC a.1)=true)->sumE as t=0:=fun t ht=>jy fun q hq z=>by
   have q1:=a1 q hq;rw [z] at q1;rcases ht with ht | ht
   ·rw [ht,BQ] at q1; cases q1
   ·rw [NV ht] at q1; cases q1
  have zb:∀ t,(t=b.1\/dataLt (aC t) (aC b.1)=true)->sumE bs t=0:=fun t ht=>jy fun q hq z=>by
   have q1:=b1 q hq;rw [z] at q1;rcases ht with ht | ht
   ·rw [ht,BQ] at q1; cases q1
   ·rw [NV ht] at q1; cases q1
  have ea:∀ t,sumE (a::as) t=(if a.1=t then a.2 else 0)+sumE as t:=fun t=>rfl;have eb:∀ t,sumE (b::bs) t=(if b.1=t then b.2 else 0)+sumE bs t:=fun t=>rfl;have jr:a.1=b.1:=by
   by_cases e:a.1=b.1
   ·exact e
   ·exfalso
    cases d4:dataLt (aC a.1) (aC b.1) with
    | true =>
     have:=h a.1;rw [ea,eb,if_pos rfl,if_neg (fun z=>e z.symm),za _ (.inl rfl),zb _ (.inr d4)] at this;omega
    | false =>
     have R7:=HS (enc:=aC) e d4;have:=h b.1;rw [ea,eb,if_pos rfl,if_neg e,zb _ (.inl rfl),za _ (.inr R7)] at this;omega
  have hm:a.2=b.2:=by
   have:=h a.1;rw [ea,eb,if_pos rfl,if_pos jr.symm,za _ (.inl rfl),zb _ (.inl jr)] at this;omega
  have he:a=b:=Prod.ext jr hm;subst he;rw [yW a2 b2 (fun p hp=>p1 p (bX _ hp)) (fun p hp=>p2 p (bX _ hp)) fun t=>by have:=h t; rw [ea,eb] at this; omega]
theorem ext {C:Int} {g k:Gr} (hg:g.Ok C) (hk:k.Ok D) (h:∀ t,S g t=S k t):g=k:=by
 have h1:=aS.mp hg;have h2:=aS.mp hk;have:=yW h1.2 h2.2 (fun p hp=>(h1.1 p hp).2.2.1) (fun p hp=>(h2.1 p hp).2.2.1) h;rw [<- aD g,<- aD k,this]
end Gr
theorem Fy (h:n<=1000000):n < sizeLine:=by
 have:sizeLine=16777216:=sizeLine_eq;omega
open PySem.Sem in
theorem zch {v:Value} {o:Obj} {Hh:Heap->Prop} (Bg:Begins v o Hh) :
  Meets (Builtin.«enumerate.__new__» ⟨[.type "enumerate",v],[]⟩) (fun _ R s=>Hh s.heap/\R (.ok (.ret (.ref (s.heap.push o).objs.size))) { s with heap:=(s.heap.push o).push { cls:=.type "enumerate",data:=.fields #[.none,.bool false,.ref s.heap.objs.size,rawInt 0,.none,.none] } }) :=
 .of_wp fun prog w A R s h=>by
  obtain ⟨hp,g,d,tk,os⟩:=s;obtain ⟨h1,h⟩:=h;have zys:=sub_enumerate;have go:∀ {A2:Around} {E2:Value->Shared->Prop} {Q2:Value->Shared->Prop},Q2 (.ref hp.objs.size) ⟨hp.push o,g,d,tk,os⟩->wpAny (model prog w) A2 (pyIter v) Q2 E2 ⟨hp,g,d,tk,os⟩:=fun z=>Bg.iter prog w _ _ ⟨hp,g,d,tk,os⟩ _ h1 z
  wp_walk using go
  refine wpAny_stack_any fun stk=>wpAny_pure ?_
  split
  ·rename_i cl _ _ _ _ _;cases (cl == Value.type "enumerate") <;> (wp_walk using go; exact ⟨_,Ja,h⟩)
  ·wp_walk using go; exact ⟨_,Ja,h⟩
section
variable {prog:Program} {w:World} {A:Around} {E:Value->Shared->Prop} {s:Shared}
theorem zas {items:Array Value} {Q:Value->Shared->Prop} (hT:s.heap.IsTuple t items)
  (h:∀ h2,IsEnum h2 (s.heap.objs.size+1) s.heap.objs.size 0 .none->h2.IsTupleIter s.heap.objs.size t 0->(∀ b ob,s.heap.get? b=some ob->h2.get? b=some ob)->Q (.ref (s.heap.objs.size+1)) { s with heap:=h2 }):wpAny (model prog w) A (call (.type "enumerate") [.ref t]) Q E s:=by
 have Bg:=begins_tuple t items;refine callType_new F.called_enumerate (by decide) (F.typeCall_enumerate_1 _) (F.newCall_enumerate_1 _) (fun ob=>F.args_object_init_2 ob _) F.entry_enumerate_new (zch Bg) ⟨hT,?_⟩;have hz:(s.heap.push { cls:=.type "tuple_iterator",data:=.fields #[.ref t,.int 0 0] }).objs.size=s.heap.objs.size+1:=Heap.size_push ..;show _/\_;rw [hz];have he:IsEnum ((s.heap.push { cls:=.type "tuple_iterator",data:=.fields #[.ref t,.int 0 0] }).push { cls:=.type "enumerate",data:=.fields #[.none,.bool false,.ref s.heap.objs.size,rawInt 0,.none,.none] }) (s.heap.objs.size+1) s.heap.objs.size 0 .none:=by
  have z:=Heap.get?_push_size (s.heap.push { cls:=.type "tuple_iterator",data:=.fields #[.ref t,.int 0 0] }) (o:={ cls:=.type "enumerate",data:=.fields #[.none,.bool false,.ref s.heap.objs.size,rawInt 0,.none,.none] }) rfl;rw [hz] at z;exact z
 exact ⟨⟨_,he,Ja⟩,h _ he ⟨_,Heap.get?_push_of_some _ (Heap.get?_push_size _ rfl),Ja,Ja⟩ fun b ob x=>Heap.get?_push_of_some _ (Heap.get?_push_of_some _ x)⟩
end
def ES (K:Qn) (a:Addr):It :=
 ⟨fun i H=>∃ (xs:List V) (x:V),SqT K H a xs/\xs[i]?=some x,
  fun i H v H2=>∃ T x,v=.ref T/\H T=none/\H2=upd H T (.tup [.int (i:Nat),x])/\∀ xs,SqT K H a xs->xs[i]?=some x,
  fun i H=>∃ xs:List V,SqT K H a xs/\xs.length=i⟩
theorem zbd {w:World} (a e it:Addr) (Ec:e ≠ it) (J2:a ≠ it) (Sk:e ≠ a) :
  Turn P w K (.Tuple elts kk wu) (ES K a) [e,it] e (fun i h=>(∃ old,IsEnum h e it ((i:Nat):Int) old)/\h.IsTupleIter it a i) where
 mem:=by simp
 obj:=fun i h st b hb=>by
  obtain ⟨⟨old,he⟩,o,ho,hc,hd⟩:=st;rcases (show b=e\/b=it by simpa using hb) with z | z
  ·rw [z]; exact ⟨_,he,fun v q=>nomatch q⟩
  ·rw [z]; exact ⟨o,ho,fun v q=>by rw [hd] at q; cases q⟩
 keep:=fun i h h2 st k=>let ⟨⟨old,he⟩,o,ho,r⟩:=st; ⟨⟨old,k e (by simp) _ he⟩,o,k it (by simp) o ho,r⟩
 item:=by
  intro X hP hw hK hc i pins s σ H E I hf st hg;subst hP hw hK;obtain ⟨⟨old,he⟩,hit⟩:=st;obtain ⟨xs,x,hq,hx⟩:=hg;obtain ⟨cn,rv,p,hz⟩:=I.tuple hq;obtain ⟨u,hu,ru⟩:=rv.get hx;have Ca:e < s.heap.objs.size:=Heap.lt_size he;have Sb:it < s.heap.objs.size:=by obtain ⟨_,z,_⟩:=hit; exact Heap.lt_size z
  have Dr:=Draws.tuple (prog:=X.prog) (w:=X.w) (A:=X.A.in1) (I.ok.hd hc) it a J2 cn.toArray;have d4:i < cn.toArray.size:=by
   have:=(Kq hu).1;simpa using this
  refine wpAny_pyNext_enum_itemD Dr he ⟨hit,p⟩ d4 Ec (by simp [Ec,Sk]) fun y h2 tk hy ho i9 hT oz hk=>?_;have Rv:y=u:=by
   have h3:cn[i]?=some y:=by simpa using hy
   rw [hu] at h3; exact (Yd h3).symm
  subst Rv;refine ⟨_,rfl,wpAny_letOwnedTupleGo_enum (s:={ s with heap:=h2,toks:=tk+1 }) ho fun h3 Ed sb=>?_⟩;have tf:h3.get? s.heap.objs.size=some { cls:=.type "tuple",data:=.seq #[.int i tk,y] }:=(sb.2 _ (Nat.ne_of_gt Ca)).trans hT;have nw:ObjOk X.prog X.w (upd H s.heap.objs.size (.tup [.int (i:Nat),x])) h3 s.heap.objs.size (.tup [.int (i:Nat),x]):=⟨Z2,[.int i tk,y],.cons ⟨_,rfl⟩ (.cons ru .nil),⟨_,tf,rfl,_,rfl⟩⟩;have I1:Inv X pins σ (upd H s.heap.objs.size (.tup [.int (i:Nat),x])) { s with heap:=h3,toks:=tk+1 }:=I.turnedNew (ch:=[e,it]) (fun b ob hb z=>(sb.2 b (fun y=>hb (by simp [y]))).trans (hk b ob (fun y=>hb (by simp [y])) (fun y=>hb (by simp [y])) z)) hf (Yc _) nw;refine ⟨.ref s.heap.objs.size,_,I1,Ja,⟨_,x,Ja,I.hok.fresh (Yc _),Ja,fun ys hy=>by rw [I.tuple_inj hy hq]; exact hx⟩,⟨⟨y,?_⟩,?_⟩,fun b hb=>?_⟩
  ·rw [show ((i+1:Nat):Int)=(i:Int)+1 by omega]; exact Ed
  ·obtain ⟨o,JA,r⟩:=i9.1;exact ⟨o,(sb.2 it (Ne.symm Ec)).trans JA,r⟩
  ·have bY:b < s.heap.objs.size:=by
    rcases (show b=e\/b=it by simpa using hb) with z | z
    ·rw [z]; exact Ca
    ·rw [z]; exact Sb
   rw [upd_ne (Nat.ne_of_lt bY)]; exact (hf b hb).1
 done:=by
  intro X hP hw hK hc i pins s σ H E I hf st hg;subst hP hw hK;obtain ⟨⟨old,he⟩,hit⟩:=st;obtain ⟨xs,hq,hx⟩:=hg;obtain ⟨cn,rv,p,hz⟩:=I.tuple hq;obtain ⟨f0,f1,f2,f3,f4,f5⟩:=hf it (by simp);have hl:=rv.length;have ht:s.heap.IsTuple a cn.toArray:=p;have Dr:=Draws.tuple (prog:=X.prog) (w:=X.w) (A:=X.A.in1) (I.ok.hd hc) it a J2 cn.toArray;have hn:cn.toArray.size=i:=by simp; omega
  refine wpAny_pyNext_enum_endD Dr he ⟨by rw [hn]; exact hit,ht⟩ fun h2 eb=>⟨rfl,I.turned (t':=s.toks) (fun b o hb z=>eb b o hb z) f0 f1 f3 f4 f5⟩
 self:=fun A i s Q E st h=>let ⟨⟨_,he⟩,_⟩:=st; wpAny_pyIter_enum he h
def zhz (K:Qn) (te:TE):TI:=fun σ H R=>te σ H fun v H1=>∃ a xs,v=.ref a/\SqT K H1 a xs/\R (ES K a) H1
theorem zdc {X:Cx} {ex:Expr} {te:TE} {p pos:Pos} (hg:Gl X "enumerate") (hm:X.mg "enumerate"=none) (he:PE X ex te) (hs:starEach [ex] X.env=(false,eval ex X.env)::starEach [] X.env:=by rfl) :
  PI X (.Tuple elts kk wu) (.Call (.Name "enumerate" p) [ex] [] pos) (zhz X.K te):=by
 refine ⟨fun pins s σ H R I h=>?_⟩;refine Call_ (ld_blt I hg hm boot_enumerate (PyProof.Rows.callWith_type1 (args_cons (thn (he.run pins s σ H _ I h) fun u s1 ⟨v,H1,I1,r1,q1⟩=>args_nil ?_) hs) hs rfl));obtain ⟨a,xs,ev,hq,q⟩:=q1;subst ev;cases r1;obtain ⟨cn,rv,pt,hz⟩:=I1.tuple hq;have ht:s1.heap.IsTuple a cn.toArray:=pt;have nV:a < s1.heap.objs.size:=by obtain ⟨_,z,_⟩:=ht; exact Heap.lt_size z
 refine zas ht fun h2 vN hit hk=>wpAny_pyIter_enum vN ?_;have I2:Inv X pins σ H1 { s1 with heap:=h2 }:=I1.kept (t':=s1.toks) hk;refine ⟨s1.heap.objs.size+1,[s1.heap.objs.size+1,s1.heap.objs.size],_,_,H1,Ja,I2,zbd a (s1.heap.objs.size+1) s1.heap.objs.size (Nat.succ_ne_self _) (Nat.ne_of_lt nV) (Nat.ne_of_gt (Nat.lt_succ_of_lt nV)),⟨⟨.none,vN⟩,hit⟩,fun b hb=>?_,q⟩;have hle:s1.heap.objs.size<=b:=by
  rcases (show b=s1.heap.objs.size+1\/b=s1.heap.objs.size by simpa using hb) with z | z
  ·rw [z]; exact Nat.le_add_right _ _
  ·rw [z]; exact Yc _
 exact I1.fpOk hle (I1.hok.fresh hle)
theorem zbc:Walk (ES K a) xs.length (fun H=>SqT K H a xs) (YPair (fun i=>some (.int (i:Nat))) (fun i=>xs[i]?)):=by
 refine ⟨fun i _ hi q=>⟨xs,xs[i],q,by simp [hi]⟩,fun _ q=>⟨xs,q,Ja⟩,fun i H v H2 _ q y=>?_⟩;obtain ⟨T,x,h1,h2,h3,h4⟩:=y;exact ⟨T,.int (i:Nat),x,h1,h2,h3,Ja,h4 xs q⟩
abbrev Pl:=List Nat
def pk (p:Pl):List PyData:=p.map fun n:Nat=>.int (n:Int)
def wc (p:Pl):PyData:=.tuple (pk p)
theorem W9:∀ p q:Pl,alikeAll (pk p) (pk q)=true
 | [],_=>by simp [pk,alikeAll]
 | _::_,[]=>by simp [pk,alikeAll]
 | a::p,b::q=>by
  have:=W9 p q;show alikeAll (.int a::pk p) (.int b::pk q)=true;simp [alikeAll,alike,this]
theorem V8:∀ p q:Pl,PyData.eqvAll (pk p) (pk q)=decide (p=q)
 | [],[]=>by simp [pk,PyData.eqvAll]
 | [],_::_=>by simp [pk,PyData.eqvAll]
 | _::_,[]=>by simp [pk,PyData.eqvAll]
 | a::p,b::q=>by
  have ih:=V8 p q;show PyData.eqvAll (.int a::pk p) (.int b::pk q)=_;simp only [PyData.eqvAll,PyData.eqv,ih,ib];by_cases h:a=b
  ·subst h; simp
  ·have:¬ ((a:Int)=(b:Int)):=by omega
   simp [h,this]
instance:Orderly wc where
 al a b:=by show alike (.tuple _) (.tuple _)=true; rw [alike]; exact W9 a b
 eq a b:=by show PyData.eqv (.tuple _) (.tuple _)=_; rw [PyData.eqv]; exact V8 a b
theorem wg (p:Pl):gH (wc p)=true:=by
 have:∀ p:Pl,ki (pk p)=true:=by
  intro p
  induction p with
  | nil=>simp [pk,ki]
  | cons a r ih=>show ki (.int a::pk r)=true; simp [ki,gH,ih]
 show gH (.tuple _)=true;rw [gH]; exact this p
theorem NG {p:Pl} (h:Dp K H v (wc p)):∃ a,v=.ref a/\SqT K H a (p.map fun n:Nat=>V.int (n:Int)):=by
 have key:∀ {p:Pl} {xs:List V},DpAll K H xs (pk p)->xs=p.map fun n:Nat=>V.int (n:Int):=by
  intro p
  induction p with
  | nil=>intro xs h; cases h; rfl
  | cons a r ih =>
   intro xs h;cases h with
   | cons h1 h2=>cases h1; rw [ih h2]; rfl
 cases h with
 | tup hs ha=>rw [key ha] at hs; exact ⟨_,Ja,hs⟩
theorem Nr {p:Pl} (h:SqT K H a (p.map fun n:Nat=>V.int (n:Int))):Dp K H (.ref a) (wc p):=by
 refine Dp.tup h ?_;have key:∀ p:Pl,DpAll K H (p.map fun n:Nat=>V.int (n:Int)) (pk p):=by
  intro p
  induction p with
  | nil=>exact .nil
  | cons a r ih=>exact .cons (.int _) ih
 exact key p
def Wh (K:Qn) (H:Hp) (v:V) (o:Option Int):Prop:=(∃ i,v=.int i/\o=some i)\/(o=none/\∃ (n:String) (b1 b2:Bool),TyX K H v (.type n)/\kitB n "int"=some b1/\(b1=true->kitB n "bool"=some b2)/\(b1&&!b2)=false)
inductive Whs (K:Qn) (H:Hp):List V->List (Option Int)->Prop where
 | nil:Whs K H [] []
 | cons {v:V} {o:Option Int} {vs:List V} {os:List (Option Int)}:Wh K H v o->Whs K H vs os->Whs K H (v::vs) (o::os)
section
variable {K:Qn} {H H':Hp}
theorem Whs.length:∀ {vs:List V} {os:List (Option Int)},Whs K H vs os->vs.length=os.length
 | _,_,.nil=>rfl
 | _,_,.cons _ h=>congrArg (·+1) h.length
theorem Whs.get:∀ {vs:List V} {os:List (Option Int)},Whs K H vs os->∀ {i:Nat} {v:V},vs[i]?=some v->∃ o,os[i]?=some o/\Wh K H v o
 | _,_,.nil,i,v,e=>by simp at e
 | _,_,.cons (o:=o) h hs,0,v,e=>by
  have:_=v:=Yd e;subst this; exact ⟨o,Ja,h⟩
 | _,_,.cons h hs,i+1,v,e=>hs.get (i:=i) e
theorem Wh.sb {o:Option Int} (h:Wh K H v o) (e:SB [] H H'):Wh K H' v o:=by
 rcases h with h | ⟨h,n,b1,b2,ty,k⟩
 ·exact .inl h
 ·exact .inr ⟨h,n,b1,b2,C7 e (fun _ _=>aL) ty,k⟩
theorem Whs.sb (e:SB [] H H'):∀ {vs:List V} {os:List (Option Int)},Whs K H vs os->Whs K H' vs os
 | _,_,.nil=>.nil
 | _,_,.cons h hs=>.cons (h.sb e) (Whs.sb e hs)
def mc (p:Pl):List (Option Int):=p.map fun n:Nat=>some (n:Int)
theorem Whs.pl (K:Qn) (H:Hp):∀ p:Pl,Whs K H (p.map fun n:Nat=>V.int (n:Int)) (mc p)
 | []=>.nil
 | n::r=>.cons (.inl ⟨_,rfl,rfl⟩) (Whs.pl K H r)
end
def stp (g:Gr):Option Int->Option Tr
 | none=>none
 | some n=>if 0<=n then (g.ps[n.toNat]?).map (·.1) else none
def lk:Tr->List (Option Int)->Option Tr
 | t,[]=>some t
 | t,o::r=>(stp t.2 o).bind fun u=>lk u r
theorem P9:∀ (t:Tr) (as bs:List (Option Int)),lk t (as++bs)=(lk t as).bind fun u=>lk u bs
 | t,[],bs=>rfl
 | t,o::r,bs=>by
  show (stp t.2 o).bind (fun u=>lk u (r++bs))=((stp t.2 o).bind fun u=>lk u r).bind fun u=>lk u bs;cases stp t.2 o with
  | none=>rfl
  | some u=>exact P9 u r bs
theorem zfg {t:Tr} {os:List (Option Int)} {o:Option Int} {u:Tr} (h1:lk t (os.take i)=some u) (h2:os[i]?=some o) (h3:stp u.2 o=none):lk t os=none:=by
 have hl:i < os.length:=(Kq h2).1;have e:os=os.take i++o::os.drop (i+1):=by
  have:=List.drop_eq_getElem_cons hl;rw [(Kq h2).2] at this;rw [<- this,List.take_append_drop]
 rw [e,P9,h1];show (stp u.2 o).bind _=none;rw [h3]; rfl
theorem zfh {t:Tr} {os:List (Option Int)} {o:Option Int} {u x:Tr} (h1:lk t (os.take i)=some u) (h2:os[i]?=some o) (h3:stp u.2 o=some x):lk t (os.take (i+1))=some x:=by
 rw [Yg,h2,P9,h1];show (stp u.2 o).bind _=some x;rw [h3]; rfl
def NS (K:Qn) (C:Addr):Sp:=fun vs H Q E=>∃ (v:V) (g:Gr) (a:Addr) (xs:List V) (os:List (Option Int)),vs=[v,.ref a]/\GA K H v g/\SqT K H a xs/\Whs K H xs os /\
 (∀ t,os ≠ []->lk ("",g) os=some t->∀ (x:V) (H':Hp),SB [] H H'->Dp K H' x (Gr.aC t)->Q x H')/\((os=[]\/lk ("",g) os=none)->∀ H',SB [] H H'->E (.ref C) none H')
mutual
inductive Tg (K:Qn) (H:Hp):V->PyData->Prop
 | int (i:Int):Tg K H (.int i) (.int i)
 | str (z:Str):z.length<=1000->Tg K H (.str z) (.str z)
 | tup {a:Addr} {xs:List V} {ds:List PyData}:SqT K H a xs->TgAll K H xs ds->Tg K H (.ref a) (.tuple ds)
 | vw {v:V} {n:String}:TyX K H v (.type n)->kitB n "tuple"=some false->kitB n "str"=some false->(kitB n "int"=some false\/n="bool")->Tg K H v .none
inductive TgAll (K:Qn) (H:Hp):List V->List PyData->Prop
 | nil:TgAll K H [] []
 | cons {v:V} {vs:List V} {d:PyData} {ds:List PyData}:Tg K H v d->TgAll K H vs ds->TgAll K H (v::vs) (d::ds)
end
mutual
def zR:PyData->PyData
 | .int i=>.int i
 | .tuple ds=>.tuple (HU ds)
 | _=>.none
def HU:List PyData->List PyData
 | []=>[]
 | d::r=>zR d::HU r
end
theorem Xl (d:PyData):qJ (zR d)=qJ d:=by cases d <;> simp [zR,qJ]
section
variable {K:Qn} {H H':Hp}
mutual
theorem Tg.th:∀ {v:V} {d:PyData},Tg K H v d->Th K [] H v (zR d)
 | _,_,.int i=>by rw [zR]; exact .int i
 | _,_,.str z _=>by rw [zR] <;> first | exact .vw (.base (.str z)) (by decide +kernel) (.inl (by decide +kernel)) (fun _ _=>aL) | simp
 | _,_,.tup hs ha=>by rw [zR]; exact .tup hs (TgAll.th ha)
 | _,_,.vw ty k1 _ k2=>by rw [zR] <;> first | exact .vw ty k1 k2 (fun _ _=>aL) | simp
theorem TgAll.th:∀ {vs:List V} {ds:List PyData},TgAll K H vs ds->z6e K [] H vs (HU ds)
 | _,_,.nil=>by rw [HU]; exact .nil
 | _,_,.cons h t=>by rw [HU]; exact .cons (Tg.th h) (TgAll.th t)
end
mutual
theorem zQ (e:SB [] H H'):∀ {v:V} {d:PyData},Tg K H v d->Tg K H' v d
 | _,_,.int i=>.int i
 | _,_,.str z hz=>.str z hz
 | _,_,.tup hs ha=>.tup (e.aP hs) (PH e ha)
 | _,_,.vw ty k0 k1 k2=>.vw (C7 e (fun _ _=>aL) ty) k0 k1 k2
theorem PH (e:SB [] H H'):∀ {vs:List V} {ds:List PyData},TgAll K H vs ds->TgAll K H' vs ds
 | _,_,.nil=>.nil
 | _,_,.cons h t=>.cons (zQ e h) (PH e t)
end
theorem TgAll.length:∀ {vs:List V} {ds:List PyData},TgAll K H vs ds->vs.length=ds.length
 | _,_,.nil=>rfl
 | _,_,.cons _ t=>by rw [Yk,Yk,TgAll.length t]
theorem TgAll.get:∀ {vs:List V} {ds:List PyData} {i:Nat} {v:V},TgAll K H vs ds->vs[i]?=some v->∃ d,ds[i]?=some d/\Tg K H v d
 | _,_,_,_,.nil,e=>by simp at e
 | _,_,0,_,.cons h t,e=>by simp at e; subst e; exact ⟨_,Ja,h⟩
 | _,_,i+1,v,.cons h t,e=>by
  obtain ⟨d,h1,h2⟩:=TgAll.get (i:=i) (v:=v) t (by simpa using e);exact ⟨d,by simpa using h1,h2⟩
theorem Tg.ty {v:V} {d:PyData} (h:Tg K H v d):∃ n b,TyX K H v (.type n)/\kitB n "tuple"=some b/\(b=true->∃ a xs ds,v=.ref a/\d=.tuple ds/\SqT K H a xs/\TgAll K H xs ds)/\(b=false->∀ ds,d ≠ .tuple ds):=by
 cases h with
 | int i=>exact ⟨"int",false,.base (.int i),by decide +kernel,fun z=>(nomatch z),fun _ ds z=>nomatch z⟩
 | str z hz=>exact ⟨"str",false,.base (.str z),by decide +kernel,fun z=>(nomatch z),fun _ ds z=>nomatch z⟩
 | tup hs ha=>exact ⟨"tuple",true,(HP hs),by decide +kernel,fun _=>⟨_,_,_,rfl,rfl,hs,ha⟩,fun z=>(nomatch z)⟩
 | vw ty k1 _ k2=>exact ⟨_,false,ty,k1,fun z=>(nomatch z),fun _ ds z=>nomatch z⟩
theorem Tg.txt (h:Tg K H v d):∃ n b,TyX K H v (.type n)/\kitB n "str"=some b/\(b=true->∃ z,v=.str z/\d=.str z/\z.length<=1000)/\(b=false->∀ z,d ≠ .str z):=by
 cases h with
 | int i=>exact ⟨"int",false,.base (.int i),by decide +kernel,fun z=>(nomatch z),fun _ ds z=>nomatch z⟩
 | str z hz=>exact ⟨"str",true,.base (.str z),by decide +kernel,fun _=>⟨z,rfl,rfl,hz⟩,fun z=>(nomatch z)⟩
 | tup hs ha=>exact ⟨"tuple",false,(HP hs),by decide +kernel,fun z=>(nomatch z),fun _ ds z=>nomatch z⟩
 | vw ty _ k1 k2=>exact ⟨_,false,ty,k1,fun z=>(nomatch z),fun _ ds z=>nomatch z⟩
end
instance (z:Str):Decidable (fm z):=inferInstanceAs (Decidable (_/\_/\_))
def wb:PyData->Bool
 | .str z=>decide (fm z)
 | _=>false
mutual
def jC:PyData->Bool
 | .tuple ds=>jY ds&&HY (ds.map nY)
 | _=>false
def jY:List PyData->Bool
 | []=>true
 | d::ds=>jA d&&jY ds
def jA:PyData->Bool
 | .tuple ds=>nX ds
 | _=>false
def nX:List PyData->Bool
 | []=>false
 | t::r=>lJ t&&sT r
def lJ:PyData->Bool
 | .tuple ds=>qY ds
 | _=>false
def qY:List PyData->Bool
 | []=>false
 | k::r=>wb k&&tF r
def tF:List PyData->Bool
 | []=>false
 | g::r=>jC g&&r.isEmpty
end
theorem zbw {r:List PyData} (h:sT r=true):∃ i,r=[.int i]/\(1:Int)<=i:=by
 match r,h with
 | [],h=>simp [sT] at h
 | .int i::[],h=>simp [sT,qJ] at h; exact ⟨i,Ja,h⟩
 | .int i::_::_,h=>simp [sT] at h
 | .none::_,h=>simp [sT,qJ] at h
 | .bool _::_,h=>simp [sT,qJ] at h
 | .str _::_,h=>simp [sT,qJ] at h
 | .list _::_,h=>simp [sT,qJ] at h
 | .dict _::_,h=>simp [sT,qJ] at h
 | .tuple _::_,h=>simp [sT,qJ] at h
theorem P8 (h:wb d=true):∃ z,d=.str z/\fm z:=by
 cases d with
 | str z=>exact ⟨z,Ja,Ks h⟩
 | _=>simp [wb] at h
mutual
theorem P5:∀ d:PyData,jC d=true->∃ g:Gr,d=g.enc
 | .tuple ds,h=>by
  rw [jC,Bool.and_eq_true] at h;obtain ⟨g,e⟩:=PF ds h.1;exact ⟨g,by rw [e]; rfl⟩
 | .none,h=>by simp [jC] at h
 | .bool _,h=>by simp [jC] at h
 | .int _,h=>by simp [jC] at h
 | .str _,h=>by simp [jC] at h
 | .list _,h=>by simp [jC] at h
 | .dict _,h=>by simp [jC] at h
theorem PF:∀ ds:List PyData,jY ds=true->∃ g:Gr,ds=g.encs
 | [],_=>⟨.nil,rfl⟩
 | d::ds,h=>by
  rw [jY,Bool.and_eq_true] at h;obtain ⟨r,er⟩:=PF ds h.2;obtain ⟨t,i,ed,he⟩:=Pc d h.1;exact ⟨.cons t.1 t.2 i r,by rw [er,ed]; rfl⟩
theorem Pc:∀ d:PyData,jA d=true->∃ (t:Tr) (i:Int),d=.tuple [Gr.aC t,.int i]/\(1:Int)<=i
 | .tuple ds,h=>by
  rw [jA] at h;obtain ⟨e,i,ed,he⟩:=zdk ds h;exact ⟨e,i,by rw [ed],he⟩
 | .none,h=>by simp [jA] at h
 | .bool _,h=>by simp [jA] at h
 | .int _,h=>by simp [jA] at h
 | .str _,h=>by simp [jA] at h
 | .list _,h=>by simp [jA] at h
 | .dict _,h=>by simp [jA] at h
theorem zdk:∀ ds:List PyData,nX ds=true->∃ (t:Tr) (i:Int),ds=[Gr.aC t,.int i]/\(1:Int)<=i
 | [],h=>by simp [nX] at h
 | d::r,h=>by
  rw [nX,Bool.and_eq_true] at h;obtain ⟨t,et⟩:=Wx d h.1;obtain ⟨i,er,hi⟩:=zbw h.2;exact ⟨t,i,by rw [et,er],hi⟩
theorem Wx:∀ d:PyData,lJ d=true->∃ t:Tr,d=Gr.aC t
 | .tuple ds,h=>by
  rw [lJ] at h;obtain ⟨t,et⟩:=zcy ds h;exact ⟨t,by rw [et]; rfl⟩
 | .none,h=>by simp [lJ] at h
 | .bool _,h=>by simp [lJ] at h
 | .int _,h=>by simp [lJ] at h
 | .str _,h=>by simp [lJ] at h
 | .list _,h=>by simp [lJ] at h
 | .dict _,h=>by simp [lJ] at h
theorem zcy:∀ ds:List PyData,qY ds=true->∃ t:Tr,ds=[.str t.1,t.2.enc]
 | [],h=>by simp [qY] at h
 | d::r,h=>by
  rw [qY,Bool.and_eq_true] at h;obtain ⟨z,ez,_⟩:=P8 h.1;obtain ⟨g,eg⟩:=zd5 r h.2;exact ⟨(z,g),by rw [ez,eg]⟩
theorem zd5:∀ ds:List PyData,tF ds=true->∃ g:Gr,ds=[g.enc]
 | [],h=>by simp [tF] at h
 | d::r,h=>by
  rw [tF,Bool.and_eq_true] at h;obtain ⟨g,eg⟩:=P5 d h.1;have:r=[]:=by cases r with | nil=>rfl | cons _ _=>simp at h
  exact ⟨g,by rw [eg,this]⟩
end
section
variable {K:Qn} {H:Hp}
theorem O2 {C:Int}:∀ (g:Gr) {vs:List V},g.Ok C->DpAll K H vs g.encs->TgAll K H vs g.encs
 | .nil,vs,_,h=>by cases h; exact .nil
 | .cons k g m r,vs,ho,h=>by
  cases h with
  | cons h1 h2 =>
   refine .cons ?_ (O2 r ho.2.2.2.2.1 h2);cases h1 with
   | tup hs ha =>
    cases ha with
    | cons h3 h4 =>
     cases h4 with
     | cons h5 h6 =>
      cases h6; cases h5;refine .tup hs (.cons ?_ (.cons (.int _) .nil));cases h3 with
      | tup fA hb =>
       cases hb with
       | cons h7 h8 =>
        cases h8 with
        | cons h9 h10 =>
         cases h10; cases h7;cases h9 with
         | tup lC hc=>exact .tup fA (.cons (.str _ (by have:=ho.1.2.1; simp [Str.length]; simp at this; omega)) (.cons (.tup lC (O2 g ho.2.1 hc)) .nil))
theorem C1:∀ (g:Gr) {vs:List V},TgAll K H vs g.encs->DpAll K H vs g.encs
 | .nil,vs,h=>by cases h; exact .nil
 | .cons k g m r,vs,h=>by
  cases h with
  | cons h1 h2 =>
   refine .cons ?_ (C1 r h2);cases h1 with
   | tup hs ha =>
    cases ha with
    | cons h3 h4 =>
     cases h4 with
     | cons h5 h6 =>
      cases h6; cases h5;refine .tup hs (.cons ?_ (.cons (.int _) .nil));cases h3 with
      | tup fA hb =>
       cases hb with
       | cons h7 h8 =>
        cases h8 with
        | cons h9 h10 =>
         cases h10; cases h7;cases h9 with
         | tup lC hc=>exact .tup fA (.cons (.str _) (.cons (.tup lC (C1 g hc)) .nil))
end
def O4 (K:Qn):Sp:=fun vs H Q _=>∃ (v:V) (d:PyData),vs=[v]/\Tg K H v d/\∀ H',SB [] H H'->Q (.bl (wb d)) H'
def IA (K:Qn) (n:Nat):Sp:=fun vs H Q _=>∃ (v:V) (d:PyData),vs=[v]/\Tg K H v d/\d.depth < n/\d.depth<=80/\wide d<=1000/\∀ H',SB [] H H'->Q (.bl (lJ d)) H'
def FO (K:Qn) (n:Nat):Sp:=fun vs H Q _=>∃ (v:V) (d:PyData),vs=[v]/\Tg K H v d/\d.depth < n/\d.depth<=80/\wide d<=1000/\∀ H',SB [] H H'->Q (.bl (jC d)) H'
def Io (K:Qn) (tp:Bool) (n:Nat):Sp:=fun vs H Q _=>∃ (a:Addr) (xs:List V) (ds:List PyData),vs=[.ref a]/\(if tp=true then SqT K H a xs else SqL K H a xs)/\TgAll K H xs ds/\PyData.depthAll ds < n/\PyData.depthAll ds<=79/\wide (.tuple ds)<=1000/\∀ H',SB [] H H'->Q (.bl (jY ds)) H'
def VX (K:Qn):Sp:=fun vs H Q _=>∃ (z y:Str) (k:Nat),vs=[.str z,.int (k:Int),.str y]/\z.length<=100000/\k<=z.length/\∀ e:Nat,k<=e->e<=z.length->(∀ j c,k<=j->j < e->z.cps.toList[j]?=some c->c ∈ y.cps.toList)->(∀ c,z.cps.toList[e]?=some c->c ∉ y.cps.toList)->Q (.str (cutS z (some (k:Int)) (some (e:Int)))) H
theorem V4 (c:Nat):c ∈ ti.cps.toList ↔ 97<=c/\c<=122:=by
 have e:ti.cps.toList=(List.range 26).map (·+97):=by decide +kernel
 rw [e,List.mem_map];constructor
 ·rintro ⟨x,hx,rfl⟩
  have:=List.mem_range.mp hx;omega
 ·intro h;exact ⟨c-97,List.mem_range.mpr (by omega),by omega⟩
theorem NC (z:Str):z.cps.toList.length=z.length:=by simp [Str.length]
theorem Ma (z:Str) {e:Nat} (he:e<=z.length):(cutS z (some ((0:Nat):Int)) (some (e:Int))).cps.toList=z.cps.toList.take e:=by
 unfold cutS;rw [HT.sIx_nat,HT.sIx_nat];simp [Nat.min_eq_left he]
theorem zd1 {e:Nat} (h1:1<=z.length) (h8:z.length<=8) (he:e<=z.length) (Aa:∀ j c,0<=j->j < e->z.cps.toList[j]?=some c->c ∈ ti.cps.toList) (uD:∀ c,z.cps.toList[e]?=some c->c ∉ ti.cps.toList) :
  decide (V.str (cutS z (some ((0:Nat):Int)) (some (e:Int)))=V.str z)=wb (.str z):=by
 have hl:=NC z;rw [Bool.eq_iff_iff,decide_eq_true_iff,wb,decide_eq_true_iff];constructor
 ·intro h
  injection h with h
  have h2:=Ma z he;rw [h] at h2;have h3:z.cps.toList.length=min e z.cps.toList.length:=by
   have:=congrArg List.length h2
   rwa [Kx] at this
  refine ⟨by omega,by omega,fun c hc=>?_⟩;obtain ⟨j,hj⟩:=List.mem_iff_getElem?.mp hc;have hj2:=(Kq hj).1;exact (V4 c).mp (Aa j c (Nat.zero_le _) (by omega) hj)
 ·rintro ⟨_,_,qp⟩
  have e1:e=z.length:=by
   rcases Nat.lt_or_ge e z.length with h | h
   ·obtain ⟨c,hc⟩:∃ c,z.cps.toList[e]?=some c:=⟨_,Kp (by omega)⟩;exact absurd ((V4 c).mpr (qp c (Qu hc))) (uD c hc)
   ·omega
  have h2:=Ma z he;rw [e1,<- hl,Yh] at h2
  congr 1
  have h3:∀ a b:Str,a.cps.toList=b.cps.toList->a=b:=by
   intro a b jr;cases a; cases b
   congr 1
   exact Array.toList_inj.mp jr
  rw [e1,<- hl];exact h3 _ _ h2
theorem Wu (h:¬ (1<=z.length/\z.length<=8)):wb (.str z)=false:=by
 have hl:=NC z;rw [wb];exact Qz fun ⟨h1,h2,_⟩=>h ⟨by omega,by omega⟩
theorem WD (h:fm z):wb (.str z)=true:=Ya h
theorem zdg {t:Tr} (h0:fm t.1) (h:jC t.2.enc=true):lJ (Gr.aC t)=true:=by
 rw [Gr.aC,lJ,qY,tF,WD h0,h]; rfl
theorem zi8 {t:Tr} (h0:fm t.1) (h:jC t.2.enc=true) (hm:1<=m):jA (Gr.aG (t,m))=true:=by
 show jA (.tuple [Gr.aC t,.int m])=true;rw [jA,nX,sT,zdg h0 h];simp [qJ,hm]
theorem NW {C:Int}:∀ {g:Gr},g.Ok C->jC g.enc=true
 | .nil,_=>by decide +kernel
 | .cons k g m r,⟨h0,h1,h2,h3,h4,h5⟩=>by
  have a1:=NW h1;have a2:=NW h4;rw [Gr.enc,jC,Bool.and_eq_true] at a2;have hp:jA (Gr.aG ((k,g),m))=true:=zi8 h0 a1 h2;have e:(Gr.cons k g m r).encs=Gr.aG ((k,g),m)::r.encs:=rfl;rw [Gr.enc,jC,e,jY,hp,a2.1,Bool.true_and,Bool.true_and,Ky];cases r with
  | nil=>rfl
  | cons k2 g2 m2 r2 =>
   have d4:dataLt (Gr.aC (k,g)) (Gr.aC (k2,g2))=true:=h5 ((k2,g2),m2) (bF ..);have e2:(Gr.cons k2 g2 m2 r2).encs=Gr.aG ((k2,g2),m2)::r2.encs:=rfl;have a3:=a2.2;rw [e2,Ky] at a3 ⊢;show (dataLt (Gr.aC (k,g)) (Gr.aC (k2,g2))::ltsD _).all id=true;rw [List.all_cons,show id (dataLt (Gr.aC (k,g)) (Gr.aC (k2,g2)))=true from d4,Bool.true_and];exact a3
theorem NH:∀ g:Gr,tj g.encs<=2+g.parts/\g.encs.length<=g.parts
 | .nil=>⟨by show tj []<=_; rw [tj]; omega,Yc _⟩
 | .cons k g m r=>by
  obtain ⟨h1,h2⟩:=NH g;obtain ⟨h3,h4⟩:=NH r;have e:(Gr.cons k g m r).encs=Gr.aG ((k,g),m)::r.encs:=rfl;have e2:wide (Gr.aG ((k,g),m))<=2+g.parts:=by
   show wide (.tuple [.tuple [.str k,.tuple g.encs],.int m])<=_;simp only [wide,tj,Yk,List.length_nil];omega
  rw [e,tj,Yk];show _<=2+(1+g.parts+r.parts)/\_<=1+g.parts+r.parts;omega
section
variable {K:Qn} {H:Hp} {C:Int}
theorem Wq {g:Gr} (ho:g.Ok C) (h:GA K H v g):Tg K H v g.enc:=by
 cases (h:Dp K H v (.tuple g.encs)) with
 | tup hs ha=>exact .tup hs (O2 g ho ha)
theorem zbj (h:fm z):z.length<=1000:=by
 have:=h.2.1;rw [NC] at this;omega
end
theorem SB.jI {aQ:List (Key × V)} {ps:List Addr} (h:H p=some (.dK aQ)) (hp:p ∈ ps) (o:HO):SB ps H (upd H p o):=by
 refine ⟨fun b u e n=>?_,fun b u e=>?_,fun b v u e=>?_,fun b e=>?_⟩
 ·rw [upd_ne (fun (z:b=p)=>n (by rw [z]; exact hp))]; exact e
 ·rw [upd_ne (fun (z:b=p)=>by subst z; rw [h] at e; cases e)]; exact e
 ·rw [upd_ne (fun (z:b=p)=>by subst z; rw [h] at e; cases e)]; exact e
 ·by_cases q:b=p
  ·subst q; rw [Qt] at e; cases e
  ·rw [upd_ne q] at e; exact e
open TL (tl)
theorem zd4 {w:World} {fd:FuncData} {ps:List Str} {sp:Sp} (no:∀ vs H Q E,¬ sp vs H Q E):FnOk P w K mg base (L2.CX P w) k f fd ps sp :=
 ⟨fun vs H Q E h=>absurd h (no vs H Q E),fun A outer s H args us vs Q E _ _ _ _ h=>absurd h (no vs H Q E)⟩
def met (xs:List Str):Nat->List Str
 | 0=>[]
 | i+1=>if (met xs i).any (· == xs.getD i Str.empty)=true then met xs i else met xs i++[xs.getD i Str.empty]
theorem Nw (xs:List Str):∀ i,(met xs i).length<=i
 | 0=>Yc _
 | i+1=>by
  have:=Nw xs i;unfold met
  split
  ·omega
  ·rw [Yf]; simp; omega
theorem zfc (xs:List Str) (i:Nat) (k:Str):(met xs (i+1)).any (· == k)=((met xs i).any (· == k) || decide (k=xs.getD i Str.empty)):=by
 rw [met];by_cases e:k=xs.getD i Str.empty
 ·subst e
  split
  ·rename_i h; rw [h]; simp
  ·simp
 ·rw [Qz e,Bool.or_false]
  split
  ·rfl
  ·rw [List.any_append];have:([xs.getD i Str.empty].any (· == k))=false:=by
    simp only [List.any_cons,List.any_nil,Bool.or_false,beq_eq_false_iff_ne];exact fun z=>e z.symm
   rw [this,Bool.or_false]
theorem zem (xs:List Str) (i:Nat):(met xs (i+1)).length=if (met xs i).any (· == xs.getD i Str.empty)=true then (met xs i).length else (met xs i).length+1:=by
 rw [met]; split <;> simp
abbrev gY (P:Program) (w:World) (h:Heap) (a:Addr) (L:List Str):Prop:=h.SetOf (PySem.strKind P w) a (fun k=>L.any (· == k)) L.length
theorem gY.keep {w:World} {h':Heap} {L:List Str} (S:gY P w h a L) (k:∀ o,h.get? a=some o->h'.get? a=some o):gY P w h' a L:=by
 obtain ⟨o,es,ep,t,ho,r⟩:=S; exact ⟨o,es,ep,t,k o ho,r⟩
section
variable {P:Program} {w:World} {A:Around}
theorem zd2 {R:Result->Shared->Prop} {I:Addr} {fp wr:List Addr} {G:Array GenState->Array GenState->Prop} {Pv:Nat->Value->Prop} {St:Nat->Shared->Prop} (W:WalksS P w A.in1 I fp wr G n Pv St) (S:Addr) (Y4:S ∉ fp) (xs:List Str) (hn:n+1 < scanBound)
  (Ry:∀ i v,Pv i v->∃ t,v=.str (xs.getD i Str.empty) t):∀ (k i:Nat) (s:Shared),k+i=n->St i s->gY P w s.heap S (met xs i) ->
   (∀ s',Moved (S::wr) G s s'->gY P w s'.heap S (met xs n)->R (.ok (.ret .none)) s')->codeAny (model P w) A (.builtin "set.update.loop" ⟨[.ref S,.ref I],[]⟩) R s:=by
 have out:S ∉ wr:=fun z=>Y4 (W.sub _ z);have up:∀ b ∈ wr,b ∈ S::wr:=fun b z=>bX _ z;intro k
 induction k with
 | zero =>
  intro i s e st hS hR;rw [Nat.zero_add] at e; subst e;refine codeAny_builtin F.entry_set_update_loop (by
   rw [Around.under_plainId F.plain_set_update_loop _];show wpAny _ A.in1 (pyNext (.ref I) >>= _) _ _ s;refine Ke (W.done s _ _ st fun s' hm=>?_);show wpAny _ A.in1 (ret Value.none) _ _ s';exact wpAny_pure (hR s' (hm.mono up) (hS.keep fun o e=>hm.heap S o out e)))
 | succ k ih =>
  intro i s e st hS hR;have lt:i < n:=by omega
  refine codeAny_builtin F.entry_set_update_loop (by
   rw [Around.under_plainId F.plain_set_update_loop _];show wpAny _ A.in1 (pyNext (.ref I) >>= _) _ _ s;refine Ke (W.item i s _ _ lt st fun v s' hP QL hm=>?_);obtain ⟨t,rfl⟩:=Ry i v hP;have Kv:gY P w s'.heap S (met xs i):=hS.keep fun o e=>hm.heap S o out e;show wpAny _ A.in1 (holding [Value.str (xs.getD i Str.empty) t] (setAdd S (.str (xs.getD i Str.empty) t)) >>= _) _ _ s';refine Ke (wpAny_holding ?_);unfold setAdd;refine wpAny_holding (Ke ((PySem.strKind P w).pyHash (k:=xs.getD i Str.empty) (PySem.Froz.is_str _ _) ?_));have room:(met xs i).length+1 < scanBound:=by have:=Nw xs i; omega
   refine wpAny_setAddHashed_of (knd:=PySem.strKind P w) (s:={ s' with toks:=s'.toks+1 }) (PySem.Froz.is_str _ _) rfl Kv room fun h' kU hS2=>?_;have hSi:gY P w h' S (met xs (i+1)):=SetOf_congr hS2 (fun k'=>(zfc xs i k').symm) (zem xs i).symm;refine wpAny_pure ⟨plainId_quiet F.plain_set_update_loop _,ih (i+1) _ (by omega) (W.frame _ s' _ _ QL (Nat.le_succ _) fun b hb o e=>?_) hSi fun s'' R6 SV=>?_⟩
   ·rw [kU.2 b fun z:b=S=>Y4 (z ▸ hb)]; exact e
   ·refine hR s'' (Moved.trans W.gtrans ((hm.mono up).then_heap (Nat.le_succ _) fun b o hb e=>?_) R6) SV;rw [kU.2 b fun z:b=S=>hb (z ▸ bF)]; exact e)
abbrev eo (led:Bool):Obj:={ cls:=.type "set",dict:=none,data:=.set #[] 0 (.fresh 0 0 led) }
set_option maxHeartbeats 8000000 in
theorem zcl {E:Value->Shared->Prop} {s:Shared} {l:Addr} {cn:Array Value} {xs:List Str} {Q:Value->Shared->Prop} (hh:A.handled=none) (hl:s.heap.IsList l cn) (hi:StrsAre cn.toList xs) (hb:cn.size+1 < scanBound)
  (h:∀ (h':Heap) (tk:Nat),gY P w h' s.heap.objs.size (met xs cn.size)->(∀ b o,b < s.heap.objs.size->s.heap.get? b=some o->h'.get? b=some o)->Q (.ref s.heap.objs.size) { s with heap:=h',toks:=tk }) :
  wpAny (model P w) A (call (.type "set") [.ref l]) Q E s:=by
 obtain ⟨c,tl',zy3⟩:=PySem.F.called_set.mro;have k1:=PySem.F.called_set.made; have k2:=PySem.F.called_set.sub;refine wpAny_call (codeAny_of_tree (by
  show wpAny _ _ (callAny (.type "set") _) _ _ _;refine wpAny_pure ⟨Code.quiet_builtin _ (by decide +kernel),codeAny_builtin PySem.F.entry_type_call ?_⟩;rw [Around.under_plain (weight_type_call_type "set" [.ref l] []) rfl];have k3:=PySem.F.called_set.notType; have k4:=PySem.F.called_set.canCreate; have k5:=PySem.F.typeCall_set_1 (.ref l)
  repeat (any_goals (first | assumption | wp_step))
  refine codeAny_mono (code_set_new_1 (.ref l) (E:=E) (Q₁:=fun ob z=>∃ led:Bool,ob=.ref s.heap.objs.size/\z={ s with heap:=s.heap.push (eo led) }) fun led=>⟨led,rfl,rfl⟩) fun r z hr=>?_;cases r with
  | error e=>exact hr
  | ok fl =>
  cases fl with
  | ret ob =>
   obtain ⟨led,rfl,rfl⟩:=hr;have Zv:(s.heap.push (eo led)).get? s.heap.objs.size=some (eo led):=Heap.get?_push_size _ rfl;have ty0:Shared.TypeIs { s with heap:=s.heap.push (eo led) } (.ref s.heap.objs.size) "set":=⟨_,Zv,rfl⟩;have k6:=PySem.F.called_set.init.lookup; have k7:=PySem.F.called_set.init.bind (.ref s.heap.objs.size)
   repeat (any_goals (first | assumption | wp_step))
   refine codeAny_mono (codeAny_call_builtin (R:=wants (fun r s₂=>r=.none/\∃ h' tk,s₂={ s with heap:=h',toks:=tk }/\gY P w h' s.heap.objs.size (met xs cn.size)/\(∀ b o,b < s.heap.objs.size->s.heap.get? b=some o->h'.get? b=some o)) E) PySem.F.called_set.init.plain PySem.F.entry_set_init (check_set_init_1 ty0 ?_)) fun r₂ s₂ RH=>?_
   ·obtain ⟨⟨oc,od,oda,osl⟩,F9,YU,nl,YP⟩:=hl;simp only at YU YP;subst YU YP;have RY:(s.heap.push (eo led)).get? l=some ⟨.type "list",od,.seq cn nl,osl⟩:=Heap.get?_push_of_some _ F9;have k8:=PySem.F.sub_list_set; have k9:=PySem.F.sub_list_frozenset;have k10:(Value.type "list" == Value.type "dict")=false:=by decide
    have Yt:(s.heap.push (eo led)).IsList l cn:=⟨_,RY,rfl,nl,rfl⟩;unfold Builtin.«set.__init__» noKeywords Builtin.Frozenset.updateFrom;generalize hPI:pyIter=PI
    wp_walk
    subst hPI;refine wpAny_pyIter_list Yt (Ke (wpAny_runValue ?_));have Yr:l < s.heap.objs.size:=Heap.lt_size F9;have QJ:(s.heap.push (eo led)).objs.size=s.heap.objs.size+1:=Heap.size_push ..;have Og:l ≠ (s.heap.push (eo led)).objs.size:=Nat.ne_of_lt (QJ ▸ Nat.lt_succ_of_lt Yr);have nin:s.heap.objs.size ∉ [(s.heap.push (eo led)).objs.size,l]:=by
     intro z;rcases Qv z with z | z
     ·exact absurd (z.trans QJ) (Nat.ne_of_lt (Nat.lt_succ_self _))
     ·have:s.heap.objs.size=l:=by simpa using z
      exact absurd this.symm (Nat.ne_of_lt Yr)
    refine zd2 ((Walks.list (show A.in1.in1.in1.handled=none by simp [hh]) _ l Og cn).toS) s.heap.objs.size nin xs hb (fun i v hv=>SS.strs_at hi i v (by rw [Array.getElem?_toList]; exact hv)) cn.size 0 _ rfl ⟨⟨_,Heap.get?_push_size _ rfl,Ja,Ja⟩,Yt.push _⟩ ?c1 ?c2
    case c1=>exact SetOf_congr ((setObjOf_fresh (knd:=PySem.strKind P w) led).setOf (Heap.get?_push_of_some _ Zv) (by unfold scanBound; omega)) (fun _=>rfl) rfl
    case c2 =>
     rintro ⟨h',g',d',XD,Q8⟩ hm Kv
     have eg:g'=s.gens:=hm.gens; have ed:d'=s.drawn:=hm.drawn; have eo':Q8=s.os:=hm.os;subst eg ed eo';show wpAny _ _ _ _ _ _;refine wpAny_pure (show wpAny _ _ (ret Value.none) _ _ _ from wpAny_pure ⟨rfl,h',XD,Ja,Kv,fun b o Ad e=>hm.heap b o (fun z=>?_) (Heap.get?_push_of_some _ (Heap.get?_push_of_some _ e))⟩);rcases Qv z with z | z
     ·exact absurd z (Nat.ne_of_lt Ad)
     ·have:b=(s.heap.push (eo led)).objs.size:=by simpa using z
      exact absurd (this.trans QJ) (Nat.ne_of_lt (Nat.lt_succ_of_lt Ad))
   ·cases r₂ with
    | error e=>exact RH
    | ok fl₂ =>
    cases fl₂ with
    | ret r =>
     obtain ⟨rfl,h',tk,rfl,Kv,xI⟩:=RH
     repeat (any_goals (first | assumption | wp_step))
     exact h _ _ Kv xI
    | _=>exact RH.elim
  | _=>exact hr.elim))
end
theorem Pa (xs:List Str):∀ (i:Nat) (k:Str),k ∈ met xs i ↔ ∃ j,j < i/\xs.getD j Str.empty=k
 | 0,k=>by simp [met]
 | i+1,k=>by
  rw [met];have ih:=Pa xs i k
  split
  ·rename_i h;rw [ih];refine ⟨fun ⟨j,a,b⟩=>⟨j,by omega,b⟩,fun ⟨j,a,b⟩=>?_⟩;by_cases e:j=i
   ·subst e;obtain ⟨y,hy,he⟩:=List.any_eq_true.mp h;have:=(Pa xs j y).mp hy;rw [beq_iff_eq.mp he,b] at this;exact this
   ·exact ⟨j,by omega,b⟩
  ·rw [List.mem_append,ih];refine ⟨fun z=>?_,fun ⟨j,a,b⟩=>?_⟩
   ·rcases z with ⟨j,a,b⟩ | z
    ·exact ⟨j,by omega,b⟩
    ·exact ⟨i,by omega,(Qy z).symm⟩
   ·by_cases e:j=i
    ·subst e; exact .inr (List.mem_singleton.mpr b.symm)
    ·exact .inl ⟨j,by omega,b⟩
theorem NX (xs:List Str):∀ i,(met xs i).Nodup
 | 0=>List.nodup_nil
 | i+1=>by
  rw [met]
  split
  ·exact NX xs i
  ·rename_i h;refine List.nodup_append.mpr ⟨NX xs i,by simp,fun a ha b hb e=>h ?_⟩;rw [Qy hb] at e;exact List.any_eq_true.mpr ⟨a,ha,beq_iff_eq.mpr e⟩
theorem zf8 (xs:List Str) (k:Str):k ∈ met xs xs.length ↔ k ∈ xs:=by
 rw [Pa];refine ⟨fun ⟨j,a,b⟩=>?_,fun h=>?_⟩
 ·rw [<- b,List.getD_eq_getElem?_getD,Kp a]; exact List.getElem_mem a
 ·obtain ⟨j,a,b⟩:=List.getElem_of_mem h;exact ⟨j,a,by rw [List.getD_eq_getElem?_getD,Kp a]; exact b⟩
theorem WN (xs:List Str):∀ i,i<=xs.length->(met xs i).length=i->met xs i=xs.take i
 | 0,_,_=>by simp [met]
 | i+1,hi,h=>by
  have hl:=Nw xs i;rw [met] at h ⊢
  split at h
  ·omega
  ·rename_i hn;rw [if_neg hn];rw [Yf,Yi] at h;rw [WN xs i (by omega) (by omega),Yg,List.getD_eq_getElem?_getD,Kp (by omega)]
   rfl
theorem z8h (xs:List Str):(met xs xs.length).length=xs.length ↔ xs.Nodup:=by
 constructor
 ·intro h;have e:=WN xs xs.length (Yc _) h;rw [Yh] at e;rw [<- e]; exact NX xs _
 ·intro h;exact ((List.perm_ext_iff_of_nodup (NX xs _) h).mpr fun k=>zf8 xs k).length_eq
section
variable {X:Cx}
def zcx (K:Qn) (ta:TE):TE:=fun σ H Q=>ta σ H fun x H1=>∃ (l:Addr) (zs:List Str),x=V.ref l/\SqL K H1 l (zs.map V.str)/\zs.length < 1000/\Q (.int (met zs zs.length).length) H1
theorem zbh {a:Expr} {ta:TE} {p p2 q pos:Pos} (hc:X.calm=true) (B:BI X.mg) (g1:Gl X "len") (g2:Gl X "set") (ha:PE X a ta)
  (na:starEach [a] X.env=(false,eval a X.env)::starEach [] X.env:=by rfl):PE X (.Call (.Name "len" p) [.Call (.Name "set" p2) [a] [] q] [] pos) (zcx X.K ta):=by
 refine ⟨fun pins s σ H Q I h=>Call_ (ld_blt I g1 B.len PySem.boot_len ?_)⟩;refine PyProof.Rows.callWith_builtin1 (PyProof.Rows.args_cons (Call_ (ld_blt I g2 B.set PyProof.Rows.boot_set ?_)) rfl) rfl rfl;refine PyProof.Rows.callWith_type1 (PyProof.Rows.args_cons (thn (ha.run pins s σ H _ I h) fun v s1 ⟨x,H1,I1,r1,l,zs,ex,hq,h1,q1⟩=>PyProof.Rows.args_nil ?_) na) na rfl;subst ex;cases r1;obtain ⟨cn,rv,pl,hz⟩:=I1.list hq;have hlen:cn.toArray.size=zs.length:=by rw [List.size_toArray,<- rv.length,Ye]
 refine zcl (xs:=zs) (I1.ok.hd hc) pl.isList (by simpa using rv.strs) (by rw [hlen]; unfold scanBound; omega) fun h' tk hS hk=>PyProof.Rows.args_nil ?_;rw [hlen] at hS;have hm:=Nw zs zs.length;obtain ⟨o,es,ep,t,ho,hex,hd,_,_,_,hf,hn⟩:=hS;have J:Inv X pins σ H1 { s1 with heap:=h',toks:=tk }:=I1.kept fun b o e=>hk b o (Heap.lt_size e) e;exact call_len_set ho hex hd hf (by rw [hn]; omega) ⟨.int (met zs zs.length).length,H1,J.tok _,⟨_,by rw [hn]⟩,q1⟩
end
section
variable {X:Cx} {CX:CXT} {k:Nat} {f C:Addr} {fd:FuncData} {ps:List Str} {sp:Sp} {E:L2.St->XK} {x m:Str} {p pos apos:Pos} {e o:Expr} {es:List Expr} {ta:TE} {t:TA}
def Fz (C:Addr) (m:Str) (sp:Sp) (E:L2.St->XK) (ta:TE) (t:TA):TE:=fun σ H Q=>ta σ H fun y H1=>∃ a dx fs,y=.ref a/\H1 a=some (.ins C dx fs)/\fs.lookup m=none/\t σ H1 fun vs H2=>sp (y::vs) H2 Q (E σ)
def VD (C:Addr) (sp:Sp) (E:L2.St->XK) (t:TA):TE:=fun σ H Q=>t σ H fun vs H1=>∀ y dx,H1 y=none->H1 dx=none->dx ≠ y ->
 sp (.ref y::vs) (upd (upd H1 dx (.own y)) y (.ins C dx [])) (fun v H2=>v=.non/\Q (.ref y) H2) (E σ)
theorem PN {pl:Sem Bool} (ho:PE X o ta) (c:Cls X.K C) (hm:Meth X.K C m f) (F:FnOk X.prog X.w X.K X.mg X.base CX k f fd ps sp) (hr:Room k X.A) (hb:Binds X.K fd ps []) (hx:∀ σ,PassesAt CX X σ (E σ)) (ha:PA X (e::es) t)
  (i9:starEach (e::es) X.env=(false,eval e X.env)::starEach es X.env:=by rfl) (fc:(backTo pos (starEach es X.env)).any (·.1)=false:=by rfl)
  (ht:eval (.Call (.Attribute o m apos) (e::es) [] pos) X.env=(do
    let ov <- eval o X.env
    standAt apos.atName
    let (g,first) <- holding [ov] (getMethod ov m pl)
    callWith pos g first (backTo pos (starEach (e::es) X.env)) (backToKw pos (keywordEach [] X.env))):=by rfl) :
  PE X (.Call (.Attribute o m apos) (e::es) [] pos) (Fz C m sp E ta t):=by
 refine ⟨fun pins s σ H Q I h=>PySem.W.methodCall_KW (pl:=pl) (thn (ho.run pins s σ H _ I h) fun u s1 ⟨y,H1,I1,ry,a,dx,fs,ey,ea,l,q⟩=>?_) ht⟩;subst ey;cases (show u=Value.ref a from ry);exact getmeth_ok I1 ea c hm l (PySem.W.callWith_K (first:=[.ref a]) (h₀:=X.base) I.ok.mod.kin hm.kp
  (thn (ha.run pos pins s1 σ H1 _ I1 q) fun us s2 ⟨vs,H2,I2,r,q2⟩=>⟨I2.kIn,run_fnS (us:=.ref a::us) (vs:=.ref a::vs) F hr hb (hx σ) I2 (.cons rfl r) q2⟩) i9 fc)
theorem zc5 {pl:Sem Bool} (ho:PE X o ta) (c:Cls X.K C) (hm:Meth X.K C m f) (F:FnOk X.prog X.w X.K X.mg X.base CX k f fd ps sp) (hr:Room k X.A) (hb:Binds X.K fd ps []) (hx:∀ σ,PassesAt CX X σ (E σ))
  (ht:eval (.Call (.Attribute o m apos) [] [] pos) X.env=(do
    let ov <- eval o X.env
    standAt apos.atName
    let (g,first) <- holding [ov] (getMethod ov m pl)
    callWith pos g first (backTo pos (starEach [] X.env)) (backToKw pos (keywordEach [] X.env))):=by rfl) :
  PE X (.Call (.Attribute o m apos) [] [] pos) (Fz C m sp E ta tNil):=by
 refine ⟨fun pins s σ H Q I h=>PySem.W.methodCall_KW (pl:=pl) (thn (ho.run pins s σ H _ I h) fun u s1 ⟨y,H1,I1,ry,a,dx,fs,ey,ea,l,q⟩=>?_) ht⟩;subst ey;cases (show u=Value.ref a from ry);exact getmeth_ok I1 ea c hm l (PySem.W.callWith_K0 (first:=[.ref a]) I1.kIn hm.kp (run_fnS (us:=[.ref a]) (vs:=[.ref a]) F hr hb (hx σ) I1 (.cons rfl .nil) q))
theorem zcu (M:Mk X.K C f) (F:FnOk X.prog X.w X.K X.mg X.base CX k f fd ps sp) (hr:Room (k+1) X.A) (hg:Gl X x) (hm:X.mg x=some (.ref C)) (hb:Binds X.K fd ps []) (hx:∀ σ,PassesAt CX X σ (E σ))
  (ha:PA X (e::es) t) (yH:(x == ("__debug__":Str))=false:=by decide) (he:starEach (e::es) X.env=(false,eval e X.env)::starEach es X.env:=by rfl) (fc:(backTo pos (starEach es X.env)).any (·.1)=false:=by rfl) :
  PE X (.Call (.Name x p) (e::es) [] pos) (VD C sp E t):=by
 refine ⟨fun pins s σ H Q I h=>wpAny_Call_Name_kw (ld_glob I hg hm ?_ yH)⟩;refine PySem.W.callWith_K (h₀:=X.base) I.ok.mod.kin M.kp (thn (ha.run pos pins s σ H _ I h) fun us s1 ⟨vs,H1,I1,r,q⟩=>⟨I1.kIn,?_⟩) he fc;have hq:=q (s1.heap.objs.size+1) s1.heap.objs.size (I1.hok.fresh (Nat.le_succ _)) (I1.hok.fresh (Yc _)) (Nat.ne_of_lt (Nat.lt_succ_self _));have J:=Inv.made (C:=C) I1;have r2:Vals (V.ref (s1.heap.objs.size+1)::vs) (Value.ref (s1.heap.objs.size+1)::us):=.cons rfl r;have hl:(Value.ref (s1.heap.objs.size+1)::us).length=ps.length:=by rw [<- r2.length]; exact F.len _ _ _ _ hq
 have b:=hb _ (Value.ref (s1.heap.objs.size+1)::us) J.kIn (by rw [List.append_nil]; exact hl);rw [List.append_nil] at b;refine wpAny_call (make_map (f:=f) I1.kIn M.makes M.init (beq_iff_eq.mp M.fn) (codeAny_mono (F.run _ X.stack _ _ ⟨Value.ref (s1.heap.objs.size+1)::us,[]⟩ (Value.ref (s1.heap.objs.size+1)::us) _ _ (E σ) (hr.make C us [])
  (J.env0.make C us []) b r2 hq) fun r s' qd=>?_))
 match r,qd with
 | .error er,qd=>exact hx σ pins _ _ er s' J qd
 | .ok (.ret u),qd =>
  obtain ⟨v,H',J3,rv,ev,q3⟩:=J.after qd;subst ev;exact ⟨rv,⟨V.ref (s1.heap.objs.size+1),H',J3,Ja,q3⟩⟩
 | .ok .next,qd=>exact qd.elim
 | .ok .brk,qd=>exact qd.elim
 | .ok .cont,qd=>exact qd.elim
end
structure GotM (P:Program) (w:World) (K:Qn) (mg:Str->Option Value) (base:Heap) (C:Addr) (m:Str) (ps:List Str) (k:Nat) (sp:Sp):Prop where
 ex:∃ (f:Addr) (fd:FuncData),FnOk P w K mg base CX0 k f fd ps sp/\Meth K C m f/\Binds K fd ps []/\Cls K C
structure z1w (P:Program) (w:World) (K:Qn) (mg:Str->Option Value) (base:Heap) (C:Addr) (m:Str) (ps:List Str) (k:Nat) (sp:Sp):Prop where
 ex:∃ (f:Addr) (fd:FuncData),FnOk P w K mg base (L2.CX P w) k f fd ps sp/\Meth K C m f/\Binds K fd ps []/\Cls K C
structure GotI (P:Program) (w:World) (K:Qn) (mg:Str->Option Value) (base:Heap) (x:Str) (C:Addr) (ps:List Str) (k:Nat) (sp:Sp):Prop where
 ex:∃ (f:Addr) (fd:FuncData),FnOk P w K mg base (L2.CX P w) k f fd ps sp/\Mk K C f/\Binds K fd ps []/\mg x=some (.ref C)
section
variable {X:Cx} {C:Addr} {x m:Str} {ps:List Str} {k:Nat} {sp:Sp} {e o:Expr} {es:List Expr} {ta:TE} {t:TA} {p pos apos:Pos} {pl:Sem Bool}
theorem zeq (G:GotM X.prog X.w X.K X.mg X.base C m ps k sp) (hr:Room k X.A) (ho:PE X o ta) (ha:PA X (e::es) t)
  (i9:starEach (e::es) X.env=(false,eval e X.env)::starEach es X.env:=by rfl) (fc:(backTo pos (starEach es X.env)).any (·.1)=false:=by rfl)
  (ht:eval (.Call (.Attribute o m apos) (e::es) [] pos) X.env=(do
    let ov <- eval o X.env
    standAt apos.atName
    let (g,first) <- holding [ov] (getMethod ov m pl)
    callWith pos g first (backTo pos (starEach (e::es) X.env)) (backToKw pos (keywordEach [] X.env))):=by rfl) :
  PE X (.Call (.Attribute o m apos) (e::es) [] pos) (Fz C m sp (fun _=>E0) ta t):=by
 obtain ⟨f,fd,h1,h2,h3,h4⟩:=G.ex;exact PN ho h4 h2 h1 hr h3 (fun σ pins H s e s' I c=>pass0 pins σ H s e s' I c) ha i9 fc ht
theorem Am (G:GotM X.prog X.w X.K X.mg X.base C m ps k sp) (hr:Room k X.A) (ho:PE X o ta)
  (ht:eval (.Call (.Attribute o m apos) [] [] pos) X.env=(do
    let ov <- eval o X.env
    standAt apos.atName
    let (g,first) <- holding [ov] (getMethod ov m pl)
    callWith pos g first (backTo pos (starEach [] X.env)) (backToKw pos (keywordEach [] X.env))):=by rfl) :
  PE X (.Call (.Attribute o m apos) [] [] pos) (Fz C m sp (fun _=>E0) ta tNil):=by
 obtain ⟨f,fd,h1,h2,h3,h4⟩:=G.ex;exact zc5 ho h4 h2 h1 hr h3 (fun σ pins H s e s' I c=>pass0 pins σ H s e s' I c) ht
theorem Wg (G:z1w X.prog X.w X.K X.mg X.base C m ps k sp) (hr:Room k X.A) (ho:PE X o ta) (ha:PA X (e::es) t)
  (i9:starEach (e::es) X.env=(false,eval e X.env)::starEach es X.env:=by rfl) (fc:(backTo pos (starEach es X.env)).any (·.1)=false:=by rfl)
  (ht:eval (.Call (.Attribute o m apos) (e::es) [] pos) X.env=(do
    let ov <- eval o X.env
    standAt apos.atName
    let (g,first) <- holding [ov] (getMethod ov m pl)
    callWith pos g first (backTo pos (starEach (e::es) X.env)) (backToKw pos (keywordEach [] X.env))):=by rfl) :
  PE X (.Call (.Attribute o m apos) (e::es) [] pos) (Fz C m sp (fun _=>E0) ta t):=by
 obtain ⟨f,fd,h1,h2,h3,h4⟩:=G.ex;exact PN ho h4 h2 h1 hr h3 (fun σ pins H s e s' I c=>passL pins σ H s e s' I c) ha i9 fc ht
theorem Pz {W:WX} (G:z1w X.prog X.w X.K X.mg X.base C m ps k sp) (hr:Room k X.A) (tk:Takes X W) (ho:PE X o ta) (ha:PA X (e::es) t)
  (i9:starEach (e::es) X.env=(false,eval e X.env)::starEach es X.env:=by rfl) (fc:(backTo pos (starEach es X.env)).any (·.1)=false:=by rfl)
  (ht:eval (.Call (.Attribute o m apos) (e::es) [] pos) X.env=(do
    let ov <- eval o X.env
    standAt apos.atName
    let (g,first) <- holding [ov] (getMethod ov m pl)
    callWith pos g first (backTo pos (starEach (e::es) X.env)) (backToKw pos (keywordEach [] X.env))):=by rfl) :
  PE X (.Call (.Attribute o m apos) (e::es) [] pos) (Fz C m sp (WE W) ta t):=by
 obtain ⟨f,fd,h1,h2,h3,h4⟩:=G.ex;exact PN ho h4 h2 h1 hr h3 (fun σ=>passAt tk σ) ha i9 fc ht
theorem VG (G:GotI X.prog X.w X.K X.mg X.base x C ps k sp) (hr:Room (k+1) X.A) (hg:Gl X x) (ha:PA X (e::es) t) (yH:(x == ("__debug__":Str))=false:=by decide)
  (he:starEach (e::es) X.env=(false,eval e X.env)::starEach es X.env:=by rfl) (fc:(backTo pos (starEach es X.env)).any (·.1)=false:=by rfl) :
  PE X (.Call (.Name x p) (e::es) [] pos) (VD C sp (fun _=>E0) t):=by
 obtain ⟨f,fd,h1,h2,h3,h4⟩:=G.ex;exact zcu h2 h1 hr hg h4 h3 (fun σ pins H s e s' I c=>passL pins σ H s e s' I c) ha yH he fc
end
def Pd (K:Qn) (C:Addr):Sp:=fun vs H Q _=>∃ (a:Addr) (y:V),vs=[.ref a,y]/\OexC K C/\PySem.W.findIn K (.ref C) "kind"=some none/\H a=some (exo a C none)/\∀ dx,H dx=none->dx ≠ a->Q .non (upd (upd H dx (exd dx [("kind",y)])) a (exo a C (some dx)))
structure OwnI (P:Program) (w:World) (K:Qn) (mg:Str->Option Value) (base:Heap) (x:Str) (C:Addr) (k:Nat):Prop where
 gC:mg x=some (.ref C)
 T:OexC K C
 no:PySem.W.findIn K (.ref C) "kind"=some none
 ex:∃ (f:Addr) (fd:FuncData),PySem.W.findIn K (.ref C) "__init__"=some (some (.ref f))/\PySem.W.typeIn K (.ref f)=some (.type "function")/\FnOk P w K mg base CX0 k f fd [aw,"kind"] (Pd K C)/\Binds K fd [aw,"kind"] []
def O1 (K:Qn) (C:Addr):Bool:=(match K.lookup C with
 | some ⟨.type "type",_,.cls cd,sl⟩=>(match cd.mro,sl.toList with
  | .ref D::bm,[_,_,_,_,some (.builtin n),_]=>decide (D=C)&&(n == "ValueError.__new__"&&(!cd.hasDel&&(cd.hasDict&&PySem.HandSPX.refsVE bm)))
  | _,_=>false)
 | _=>false)&&(He.eqO (PySem.W.findIn K (.ref C) "__setattr__") (some (some (.builtin "object.__setattr__")))&&(decide (PySem.W.subIn K (.ref C) (.type "BaseException")=some true)&&(decide (PySem.W.typeIn K (.ref C)=some (.type "type"))&&PySem.W.keepIn K (.ref C))))
theorem WI (h:O1 K C=true):OexC K C:=by
 obtain ⟨h1,h⟩:=He.ba h;obtain ⟨h2,h⟩:=He.ba h;obtain ⟨h3,h⟩:=He.ba h;obtain ⟨h4,h5⟩:=He.ba h;refine ⟨?_,He.eqO_ok h2,Ks h3,Ks h4,h5⟩
 split at h1
 ·rename_i dd cd sl ho
  split at h1
  ·rename_i D bm k0 k1 k2 k3 n k5 hm hs;obtain ⟨e1,h1⟩:=He.ba h1;obtain ⟨e2,h1⟩:=He.ba h1;obtain ⟨e3,h1⟩:=He.ba h1;obtain ⟨e4,e5⟩:=He.ba h1;have e1:=Ks e1;have e2:=beq_iff_eq.mp e2;obtain ⟨nm,bs,mro,ns,qn,hd,sn,sb,ab,col,del⟩:=cd;simp only at hm e3 e4;subst e1 e2 hm e4;have e3:del=false:=by simpa using e3
   subst e3;obtain ⟨sl⟩:=sl;simp only at hs;subst hs;exact ⟨nm,qn,ns,bs,bm,sn,sb,ab,col,dd,k0,k1,k2,k3,k5,ho,e5⟩
  ·cases h1
 ·cases h1
theorem _root_.L2.PE.wide {X:Cx} {te:TE} (h:PE X e te):PE X e (fun σ H Q=>∃ Q':VK,te σ H Q'/\∀ v H',Q' v H'->Q v H') :=
 ⟨fun pins s σ H Q I ⟨Q',h1,h2⟩=>thn (h.run pins s σ H Q' I h1) fun v s1 ⟨y,H1,I1,r,q⟩=>⟨y,H1,I1,r,h2 _ _ q⟩⟩
section
variable {X:Cx} {C:Addr} {x:Str} {k:Nat} {e:Expr} {te:TE} {p pos:Pos}
def zkv (C:Addr) (te:TE):L2.St->Hp->XK->Prop:=fun σ H Q=>te σ H fun y H1=>∀ d,H1 d=none->Q (.ref C) (some d) (upd H1 d (.xd [("kind",y)]))
theorem We (O:OwnI X.prog X.w X.K X.mg X.base x C k) (hr:Room (k+1) X.A) (hg:Gl X x) (he:PE X e te) (yH:(x == ("__debug__":Str))=false:=by decide)
  (hs:starEach [e] X.env=(false,eval e X.env)::starEach [] X.env:=by rfl) (fc:(backTo pos (starEach [] X.env)).any (·.1)=false:=by rfl):PMk X (.Call (.Name x p) [e] [] pos) (zkv C te):=by
 obtain ⟨f,fd,h1,h2,h3,h4⟩:=O.ex;have hw:=pmk_oex (p:=p) O.T h1 h2 h3 hr h4 .nil pass0 hg O.gC (pa_cons (hs:=hs) he.wide Qb) yH hs fc;intro pins s σ H Q I h;refine hw pins s σ H Q I ⟨_,h,fun y H1 q=>?_⟩;refine ⟨by simp,fun a ha=>⟨a,y,rfl,O.T,O.no,Qt,fun dx hd ne=>⟨rfl,dx,[("kind",y)],Qt,?_,?_,?_⟩⟩⟩
 ·rw [upd_ne ne,Qt]
 ·rw [upd_ne ne] at hd; exact hd
 ·have e:upd (del (upd (upd (upd H1 a (exo a C none)) dx (exd dx [("kind",y)])) a (exo a C (some dx))) a) dx (.xd [("kind",y)])=upd H1 dx (.xd [("kind",y)]):=by
   funext b
   by_cases h1:b=dx
   ·subst h1; rw [Qt,Qt]
   ·rw [upd_ne h1,upd_ne h1];by_cases h2:b=a
    ·subst h2; rw [del_same,ha]
    ·rw [del_ne h2,upd_ne h2,upd_ne h1,upd_ne h2]
  rw [e];rw [upd_ne ne] at hd;exact q dx hd
end
abbrev Ru:=Gr × Gr
def Ru.enc (r:Ru):PyData:=.tuple [r.1.enc,r.2.enc]
def Ru.within (r:Ru):List (Tr × Int):=r.1.within++r.2.within
structure Kd where
 n:Str
 w:Bool
 rs:List Ru
abbrev Bk:=List Kd
abbrev Bk.names (b:Bk):List Str:=b.map (·.n)
variable {b:Bk} {r:Ru} {l o:Lad} {ρ:Str->Lad} {aQ:List (Key × V)} {ls:List Lad}
def Kd.wK (k:Kd):PyData:=.tuple (k.rs.map Ru.enc)
def Bk.get (b:Bk) (n:Str):Option Kd:=b.find? fun k=>decide (k.n=n)
def dC (r:Ru):Prop:=r.1.Ok 1000000001/\r.2.Ok 1000000001/\r.1.parts+r.2.parts<=4
def Ur (ns:List Str) (k:Kd):Prop:=fm k.n/\k.rs.length<=4/\∀ r ∈ k.rs,dC r/\∀ p ∈ Ru.within r,p.1.1 ∈ ns
structure Bk.Ok (b:Bk):Prop where
 pos:1<=b.length
 len:b.length<=8
 nd:b.names.Nodup
 kd:∀ k ∈ b,Ur b.names k
theorem Ru.ag (r:Ru):gH (Ru.enc r)=true:=by simp [Ru.enc,gH,ki,Gr.ag]
theorem Kd.dJ (k:Kd):gH k.wK=true:=by
 unfold Kd.wK gH
 induction k.rs with
 | nil=>rfl
 | cons r l ih=>rw [Ky,ki,Ru.ag,ih]; rfl
theorem Bk.get_some {n:Str} {k:Kd} (h:b.get n=some k):k ∈ b/\k.n=n :=
 ⟨List.mem_of_find?_eq_some h,Ks (List.find?_some (p:=fun k:Kd=>decide (k.n=n)) h)⟩
theorem Bk.get_none {n:Str} (h:b.get n=none):n ∉ b.names:=fun z=>by
 obtain ⟨k,hk,e⟩:=Qx z;have:=List.find?_eq_none.mp h k hk;exact this (Ya e)
theorem Bk.dW {n:Str} (h:n ∈ b.names):∃ k,b.get n=some k:=by
 cases e:b.get n with
 | none=>exact absurd h (Bk.get_none e)
 | some k=>exact ⟨k,Ja⟩
theorem Bk.fD (nd:b.names.Nodup) {k:Kd} (hk:k ∈ b):b.get k.n=some k:=by
 induction b with
 | nil=>cases hk
 | cons x r ih =>
  have Yn:(x.n::Bk.names r).Nodup:=nd;unfold Bk.get;rcases Qv hk with e | e
  ·subst e; rw [List.find?_cons_of_pos (by simp)]
  ·have:¬ x.n=k.n:=fun z=>(List.nodup_cons.mp Yn).1 (by rw [z]; exact Ku ⟨k,e,Ja⟩);rw [List.find?_cons_of_neg (by simpa using this)];exact ih (List.nodup_cons.mp Yn).2 e
def Bk.i6 (b:Bk) (us:List V):List (Key × V):=List.zipWith (fun (k:Kd) (u:V)=>(Sum.inr k.n,u)) b us
def Bk.lT (b:Bk):List (Key × V):=b.map fun k=>(Sum.inr k.n,V.bl k.w)
theorem Bk.xX (b:Bk) (n:Str):valV b.lT (Sum.inr n)=(b.get n).map fun k=>V.bl k.w:=by
 induction b with
 | nil=>rfl
 | cons x r ih =>
  by_cases e:x.n=n
  ·subst e;rw [show Bk.lT (x::r)=(Sum.inr x.n,V.bl x.w)::Bk.lT r from rfl,valV_pos rfl];simp [Bk.get]
  ·rw [show Bk.lT (x::r)=(Sum.inr x.n,V.bl x.w)::Bk.lT r from rfl,valV_neg (by simpa using e),ih];simp [Bk.get,e]
theorem Bk.om {K:Qn} {H:Hp} (n:Str):∀ {b:Bk} {us:List V},Bears K H Kd.wK us b->∀ {k:Kd},b.get n=some k->∃ u,valV (b.i6 us) (Sum.inr n)=some u/\Dp K H u k.wK
 | [],_,_,k,h=>by cases h
 | x::r,_,.cons (v:=u) (vs:=us) h0 h1,k,h=>by
  have e0:Bk.i6 (x::r) (u::us)=(Sum.inr x.n,u)::Bk.i6 r us:=rfl;by_cases e:x.n=n
  ·subst e;have:x=k:=by simpa [Bk.get] using h
   subst this;exact ⟨u,by rw [e0,valV_pos rfl],h0⟩
  ·have h':Bk.get r n=some k:=by simpa [Bk.get,e] using h
   obtain ⟨v,a,c⟩:=Bk.om n h1 h';exact ⟨v,by rw [e0,valV_neg (by simpa using e)]; exact a,c⟩
abbrev TR (d1 d2:Addr):List (Str × V):=[("spread_by_name",.ref d1),("rows_by_name",.ref d2)]
def fJ (K:Qn) (C:Addr) (H:Hp) (v:V) (b:Bk):Prop:=∃ (a dx d1 d2:Addr) (us:List V),v=.ref a/\H a=some (.ins C dx (TR d1 d2))/\H d1=some (.dK b.lT)/\H d2=some (.dK (b.i6 us))/\Bears K H Kd.wK us b
def qI (H:Hp) (ps:List Addr):Prop:=∀ p ∈ ps,H p=none\/∃ xs,H p=some (.lst xs)
theorem qI.nil:qI H []:=fun _ h=>nomatch h
theorem qI.one (h:H p=some (.lst xs)):qI H [p]:=fun q z=>by rw [Qy z]; exact .inr ⟨xs,h⟩
theorem qI.yf {ps:List Addr} (h:qI H ps) {a:Addr} {o:HO} (e:H a=some o) (n:∀ xs,o ≠ .lst xs):a ∉ ps:=fun z=>by
 rcases h a z with q | ⟨xs,q⟩
 ·rw [e] at q; cases q
 ·rw [e] at q; exact n xs (Yd q)
section
variable {K:Qn} {C:Addr} {H H':Hp} {v:V} {b:Bk} {ps:List Addr}
theorem fJ.sb (h:fJ K C H v b) (e:SB ps H H') (hp:qI H ps):fJ K C H' v b:=by
 obtain ⟨a,dx,d1,d2,us,rfl,h1,h2,h3,h4⟩:=h;exact ⟨a,dx,d1,d2,us,rfl,e.keep _ _ h1 (hp.yf h1 fun _ z=>nomatch z),e.keep _ _ h2 (hp.yf h2 fun _ z=>nomatch z),e.keep _ _ h3 (hp.yf h3 fun _ z=>nomatch z),h4.sb e Kd.dJ⟩
theorem fJ.dI (h:fJ K C H v b) (e:SB [] H H'):fJ K C H' v b:=h.sb e qI.nil
theorem fJ.at (h:fJ K C H v b):∃ a dx d1 d2,v=.ref a/\H a=some (.ins C dx (TR d1 d2)):=by
 obtain ⟨a,dx,d1,d2,us,e,h1,_⟩:=h;exact ⟨a,dx,d1,d2,e,h1⟩
end
structure ClsF (K:Qn) (C:Addr) (fs:List Str):Prop where
 c:Cls K C
 no:∀ f ∈ fs,NoAttr K C f
def Iv (K:Qn) (C:Addr):Sp:=fun vs H Q _=>∃ (v:V) (b:Bk),vs=[v]/\fJ K C H v b/\b.length<=1000/\∀ (l:Addr) (H':Hp),SB [] H H'->H l=none->H' l=some (.lst (b.names.map V.str))->Q (.ref l) H'
def Fx (N:Addr) (b:Bk) (n:Str) (H:Hp) (E:XK) (q:Kd->Prop):Prop:=(∀ k,b.get n=some k->q k)/\(b.get n=none->∀ (d:Addr) (H':Hp),SB [] H H'->H d=none->H' d=some (.xd [("kind",.str n)])->E (.ref N) (some d) H')
def NQ (K:Qn) (C N:Addr):Sp:=fun vs H Q E=>∃ (v:V) (b:Bk) (n:Str),vs=[v,.str n]/\fJ K C H v b/\b.length<=1000/\Fx N b n H E fun _=>∀ H',SB [] H H'->Q .non H'
def IB (K:Qn) (C N:Addr):Sp:=fun vs H Q E=>∃ (v:V) (b:Bk) (n:Str),vs=[v,.str n]/\fJ K C H v b/\b.length<=1000/\Fx N b n H E fun k=>∀ H',SB [] H H'->Q (.bl k.w) H'
def NI (K:Qn) (C N:Addr):Sp:=fun vs H Q E=>∃ (v:V) (b:Bk) (n:Str),vs=[v,.str n]/\fJ K C H v b/\b.length<=1000/\(∀ k ∈ b,k.rs.length<=1000) /\
 Fx N b n H E fun k=>∀ (l:Addr) (us:List V) (H':Hp),SB [] H H'->H l=none->H' l=some (.lst us)->Bears K H' Ru.enc us k.rs->Q (.ref l) H'
inductive KT where
 | other
 | three (d:PyData) (w:Option Bool) (rs:Option (List PyData))
def Kd.kt (k:Kd):KT:=.three (.str k.n) (some k.w) (some (k.rs.map Ru.enc))
def Gp (K:Qn) (H:Hp) (v:V):KT->Prop
 | .other=>∃ d,Tg K H v d/\∀ ds,d=.tuple ds->ds.length ≠ 3
 | .three d w rs=>∃ (t:Addr) (x y z:V),v=.ref t/\SqT K H t [x,y,z]/\Tg K H x d/\(match w with
   | some b=>y=.bl b
   | none=>∃ n,TyX K H y (.type n)/\kitB n "bool"=some false)/\(match rs with
   | some ds=>∃ (l:Addr) (zs:List V),z=.ref l/\H l=some (.lst zs)/\TgAll K H zs ds
   | none=>∃ n,TyX K H z (.type n)/\kitB n "list"=some false)
def EL (d:PyData):Prop:=∃ r:Ru,d=Ru.enc r/\dC r
def OY (d:PyData):Prop:=d.depth<=60/\wide d<=1000/\∀ a b,d=.tuple [a,b]->∀ g:Gr,a=g.enc\/b=g.enc->g.deep<=18/\g.parts<=450
def Nm:KT->Prop
 | .other=>True
 | .three d w rs=>∀ ds,rs=some ds->ds.length<=1000/\∀ x ∈ ds,OY x
def zA (t:KT):Prop:=∃ k:Kd,t=k.kt/\fm k.n/\k.rs.length<=4/\∀ r ∈ k.rs,dC r
def ER (ts:List KT):Prop:=∃ b:Bk,ts=b.map Kd.kt/\Bk.Ok b
inductive KTAll (K:Qn) (H:Hp):List V->List KT->Prop
 | nil:KTAll K H [] []
 | cons {v:V} {t:KT} {vs:List V} {ts:List KT}:Gp K H v t->KTAll K H vs ts->KTAll K H (v::vs) (t::ts)
def PQ (K:Qn):Sp:=fun vs H Q _=>∃ (v:V) (d:PyData),vs=[v]/\Tg K H v d/\OY d/\∀ (b:Bool) (H':Hp),SB [] H H'->(b=true ↔ EL d)->Q (.bl b) H'
def WC (K:Qn):Sp:=fun vs H Q _=>∃ (v:V) (t:KT),vs=[v]/\Gp K H v t/\Nm t/\∀ (b:Bool) (H':Hp),SB [] H H'->(b=true ↔ zA t)->Q (.bl b) H'
def QB (K:Qn):Sp:=fun vs H Q _=>∃ (v:V) (l:Addr) (r:Ru) (ns:List Str),vs=[v,.ref l]/\Dp K H v (Ru.enc r)/\dC r/\SqL K H l (ns.map V.str)/\ns.length<=1000/\∀ H',SB [] H H'->Q (.bl (decide (∀ p ∈ Ru.within r,p.1.1 ∈ ns))) H'
def Xf (K:Qn):Sp:=fun vs H Q _=>∃ (l:Addr) (xs:List V) (ts:List KT),vs=[.ref l]/\SqL K H l xs/\KTAll K H xs ts/\(∀ t ∈ ts,Nm t)/\ts.length<=1000/\∀ (b:Bool) (H':Hp),SB [] H H'->(b=true ↔ ER ts)->Q (.bl b) H'
def NA (K:Qn) (C B:Addr):Sp:=fun vs H Q E=>∃ (x dx l:Addr) (xs:List V) (ts:List KT),vs=[.ref x,.ref l]/\H x=some (.ins C dx [])/\H dx=some (.own x)/\H l=some (.lst xs)/\KTAll K H xs ts/\(∀ t ∈ ts,Nm t)/\ts.length<=1000 /\
 (∀ b:Bk,ts=b.map Kd.kt->b.Ok->∀ H',SB [x] H H'->fJ K C H' (.ref x) b->Q .non H')/\(¬ ER ts->∀ H',SB [] H H'->E (.ref B) none H')
theorem FL (n:Str) (zs:List Str):inV (.str n) (zs.map V.str)=decide (n ∈ zs):=by
 induction zs with
 | nil=>rfl
 | cons z r ih =>
  show ((z == n) || inV (.str n) (r.map V.str))=_;rw [ih];by_cases e:z=n
  ·subst e; simp
  ·have e':¬ n=z:=fun y=>e y.symm;rw [show (z == n)=false from beq_eq_false_iff_ne.mpr e,Bool.false_or];by_cases h:n ∈ r <;> simp [h,e']
theorem FN (zs:List Str):(zs.map V.str).all flatV=true:=by simp [flatV]
theorem i5 {d:Addr} {n:Str} (h:H d=some (.dK aQ)) (e:valV aQ (Sum.inr n)=some v):DGet H d (.str n) (some v):=.inl ⟨aQ,Sum.inr n,.inl h,rfl,e.symm⟩
theorem Bk.uL (b:Bk) (n:Str):decide (n ∈ b.names)=(b.get n).isSome:=by
 cases e:b.get n with
 | none=>simpa using Bk.get_none e
 | some k=>simpa using Ku ⟨k,(Bk.get_some e).1,(Bk.get_some e).2⟩
section
variable {J:It} {n:Nat} {G:Hp->Prop} {Y:Nat->Hp->V->Hp->Prop}
theorem tu (w:Walk J n G Y) {g:TG} {tt:TT} {te:TE} {vs:List Nat} {σ:L2.St} {H:Hp} {D:Addr} {Qd:Hp->Prop} (hD:H D=none) (hn:n < sizeLine) (R:Nat->List V->Hp->Prop) (h0:R 0 [] H) (hG:∀ H2,SB [] H H2->G H2)
  (st:∀ i us H2 H3,SB [D] H2 H3->R i us H2->R i us H3)
  (turn:∀ (Pv:Hp->Prop) i x H2 H' us,i < n->SB [] H H2->Y i H2 x H'->R i us H2->us.length<=i->(∀ y H5,SB [] H2 H5->R (i+1) (us++[y]) H5->∃ acc,H5 D=some (.lst acc)/\acc.length < sizeLine/\Pv (upd H5 D (.lst (acc++[y])))) ->
   (∀ H4,SB [] H2 H4->R (i+1) us H4->Pv H4)->g x (wipe σ vs) H' fun σ2 H3=>wipe σ2 vs=wipe σ vs/\tt σ2 H3 fun b H4 =>
    if b=true then te σ2 H4 fun y H5=>∃ acc,H5 D=some (.lst acc)/\acc.length < sizeLine/\Pv (upd H5 D (.lst (acc++[y]))) else Pv H4)
  (done:∀ us H2,SB [] H H2->H2 D=some (.lst us)->R n us H2->us.length<=n->Qd H2) :
  ∃ W:Nat->Nat->Hp->Prop,(∃ m,W 0 m (upd H D (.lst [])))/\∀ i m H,W i m H ->
   (J.stop i H/\Qd H)\/(J.go i H/\∃ Nx:Hp->Prop,(∀ H',Nx H'->∃ m',m' < m/\W (i+1) m' H')/\∀ x H',J.yld i H x H'->g x (wipe σ vs) H' fun σ2 H2=>wipe σ2 vs=wipe σ vs/\tt σ2 H2 fun b H3 =>
    if b=true then te σ2 H3 fun y H4=>∃ acc,H4 D=some (.lst acc)/\acc.length < sizeLine/\Nx (upd H4 D (.lst (acc++[y]))) else Nx H3):=by
 refine lc_it w (fun i H2=>SB [D] H H2/\∃ us,H2 D=some (.lst us)/\R i us H2/\us.length<=i) ⟨SB.new hD _,[],Qt,st _ _ _ _ (SB.new hD _) h0,Yc _⟩ (fun i H2 _ h=>hG H2 (h.1.drop hD)) (fun i x H2 H' hi h y=>?_) (fun H2 h=>?_)
 ·obtain ⟨s2,us,aW,hR,hl⟩:=h;refine turn _ i x H2 H' us hi (s2.drop hD) y hR hl (fun y H5 s5 r5=>?_) (fun H4 s4 r4=>⟨s2.trans s4.nil,us,s4.keep _ _ aW aL,r4,by omega⟩);have eW:=s5.keep _ _ aW aL;refine ⟨us,eW,by omega,(s2.trans s5.nil).trans (SB.set eW (by simp) _),_,Qt,st _ _ _ _ (SB.set eW (by simp) _) r5,?_⟩;rw [Yf,Yi]; omega
 ·obtain ⟨s2,us,aW,hR,hl⟩:=h;exact done us H2 (s2.drop hD) aW hR hl
end
theorem WZ {C:Int}:∀ {g:Gr},jC g.enc=true->(∀ p ∈ g.within,p.2 < C)->g.Ok C:=by
 have key:∀ (g:Gr),(∀ p ∈ g.within,p.2 < C)->jY g.encs=true->(HY (g.encs.map nY)=true->g.Ok C):=by
  intro g
  induction g with
  | nil=>intro _ _ _; trivial
  | cons k g m r ihg ihr =>
   intro hb DX Ov;have yM:∀ p ∈ g.within,p.2 < C:=fun p hp=>hb p (bX _ (i8 _ hp));have bY:∀ p ∈ r.within,p.2 < C:=fun p hp=>hb p (bX _ (mW _ hp));have e:(Gr.cons k g m r).encs=Gr.aG ((k,g),m)::r.encs:=rfl;rw [e,jY,Bool.and_eq_true] at DX;rw [e,Ky] at Ov;have hp:jA (.tuple [.tuple [.str k,.tuple g.encs],.int m])=true:=DX.1;rw [jA,nX,Bool.and_eq_true,lJ,qY,Bool.and_eq_true,tF,Bool.and_eq_true,jC,Bool.and_eq_true,sT,Bool.and_eq_true] at hp;obtain ⟨⟨hn,⟨Gb,hgr⟩,_⟩,hmm,_⟩:=hp;have JB:fm k:=by
    obtain ⟨z,ez,hz⟩:=P8 hn;cases ez; exact hz
   have RI:HY (r.encs.map nY)=true:=by
    cases hre:r.encs with
    | nil=>rfl
    | cons d ds =>
     rw [hre,Ky] at Ov;have:(dataLt (nY (Gr.aG ((k,g),m))) (nY d)::ltsD (nY d::ds.map nY)).all id=true:=Ov;rw [List.all_cons,Bool.and_eq_true] at this;rw [Ky]; exact this.2
   have YE:=ihr bY DX.2 RI;refine ⟨JB,ihg yM Gb hgr,Ks hmm,hb _ (bF ..),YE,fun p YG=>?_⟩;cases r with
   | nil=>cases YG
   | cons k2 g2 m2 r2 =>
    have Zi:dataLt (Gr.aC (k,g)) (Gr.aC (k2,g2))=true:=by
     have:(dataLt (Gr.aC (k,g)) (Gr.aC (k2,g2))::ltsD (Gr.aC (k2,g2)::r2.encs.map nY)).all id=true:=Ov;rw [List.all_cons,Bool.and_eq_true] at this;exact this.1
    rcases Qv YG with h | h
    ·subst h; exact Zi
    ·exact NJ Zi (YE.2.2.2.2.2 p h)
 intro g hg hb;rw [Gr.enc,jC,Bool.and_eq_true] at hg;exact key g hb hg.1 hg.2
theorem Iz {C:Int}:∀ {g:Gr},g.Ok C->∀ p ∈ g.within,fm p.1.1/\p.1.2.Ok C/\1<=p.2/\p.2 < C
 | .nil,_,p,h=>by cases h
 | .cons k g m r,⟨h0,h1,h2,h3,h4,_⟩,p,h=>by
  rcases Qv h with h | h
  ·subst h; exact ⟨h0,h1,h2,h3⟩
  ·rcases Qw h with h | h
   ·exact Iz h1 p h
   ·exact Iz h4 p h
theorem Gr.fN {g h:Gr} (e:g.enc=h.enc):g=h:=by
 have:=Gr.bw g h;rw [e,Gr.bw h h,Ya rfl] at this;exact Ks this.symm
theorem zf6 {g h:Gr} (hg:jC g.enc=true) (hh:jC h.enc=true):EL (.tuple [g.enc,h.enc]) ↔ g.parts+h.parts<=4/\∀ p ∈ g.within++h.within,p.2<=1000000000:=by
 constructor
 ·rintro ⟨r,e,h1,h2,h3⟩
  have e':PyData.tuple [g.enc,h.enc]=.tuple [r.1.enc,r.2.enc]:=e
  injection e' with e'
  injection e' with a e'
  injection e' with b _
  rw [Gr.fN a,Gr.fN b];refine ⟨h3,fun p hp=>?_⟩;rcases Qw hp with hp | hp
  ·have:=(Iz h1 p hp).2.2.2; omega
  ·have:=(Iz h2 p hp).2.2.2; omega
 ·rintro ⟨h1,h2⟩
  exact ⟨(g,h),Ja,WZ hg fun p hp=>by have:=h2 p (i8 _ hp); omega,WZ hh fun p hp=>by have:=h2 p (mW _ hp); omega,h1⟩
theorem VY (h:EL d):∃ g k:Gr,d=.tuple [g.enc,k.enc]/\jC g.enc=true/\jC k.enc=true:=by
 obtain ⟨r,e,h1,h2,_⟩:=h;exact ⟨r.1,r.2,e,NW h1,NW h2⟩
theorem qL:∀ g:Gr,g.deep<=g.parts
 | .nil=>Yc _
 | .cons k g m r=>by
  have h1:=qL g;have h2:=qL r;show max (1+g.deep) r.deep<=1+g.parts+r.parts;omega
theorem V7:∀ {ds:List PyData},(∀ x ∈ ds,EL x)->∃ rs:List Ru,ds=rs.map Ru.enc/\∀ r ∈ rs,dC r
 | [],_=>⟨[],rfl,fun _ h=>nomatch h⟩
 | d::ds,h=>by
  obtain ⟨r,e,hr⟩:=h d (bF ..);obtain ⟨rs,e2,vI⟩:=V7 fun x hx=>h x (bX _ hx);refine ⟨r::rs,by rw [e,e2]; rfl,fun x hx=>?_⟩;rcases Qv hx with hx | hx
  ·rw [hx]; exact hr
  ·exact vI x hx
theorem zgx (h:SqL K H a xs):TyX K H (.ref a) (.type "list"):=by
 rcases h with (h | ⟨o,h⟩) | ⟨o,cn,n,h,c,_⟩
 ·exact .base (.lst h)
 ·exact .base (.frz h)
 ·exact .kList h c
section
variable {K:Qn} {H H':Hp}
theorem VE (e:SB [] H H'):∀ {t:KT} {v:V},Gp K H v t->Gp K H' v t
 | .other,v,⟨d,h1,h2⟩=>⟨d,zQ e h1,h2⟩
 | .three d w rs,v,⟨t,x,y,z,e0,h1,h2,h3,h4⟩=>by
  refine ⟨t,x,y,z,e0,e.aP h1,zQ e h2,?_,?_⟩
  ·cases w with
   | some b=>exact h3
   | none =>
    obtain ⟨n,a,b⟩:=h3;exact ⟨n,C7 e (fun _ _=>aL) a,b⟩
  ·cases rs with
   | some ds =>
    obtain ⟨l,zs,e1,h5,h6⟩:=h4;exact ⟨l,zs,e1,e.keep _ _ h5 aL,PH e h6⟩
   | none =>
    obtain ⟨n,a,b⟩:=h4;exact ⟨n,C7 e (fun _ _=>aL) a,b⟩
theorem KTAll.sb (e:SB [] H H'):∀ {vs:List V} {ts:List KT},KTAll K H vs ts->KTAll K H' vs ts
 | _,_,.nil=>.nil
 | _,_,.cons h t=>.cons (VE e h) (KTAll.sb e t)
theorem KTAll.length:∀ {vs:List V} {ts:List KT},KTAll K H vs ts->vs.length=ts.length
 | _,_,.nil=>rfl
 | _,_,.cons h t=>by rw [Yk,Yk,KTAll.length t]
theorem KTAll.get:∀ {vs:List V} {ts:List KT} {i:Nat} {v:V},KTAll K H vs ts->vs[i]?=some v->∃ t,ts[i]?=some t/\Gp K H v t
 | _,_,i,v,.nil,h=>by simp at h
 | _,_,0,v,.cons h t,e=>by simp at e; subst e; exact ⟨_,Ja,h⟩
 | _,_,i+1,v,.cons h t,e=>by
  simp at e;obtain ⟨t',e',h'⟩:=KTAll.get (i:=i) t e;exact ⟨t',by simpa using e',h'⟩
theorem Vr:∀ {ts:List KT},(∀ t ∈ ts,zA t)->∃ b:Bk,ts=b.map Kd.kt/\∀ k ∈ b,fm k.n/\k.rs.length<=4/\∀ r ∈ k.rs,dC r
 | [],_=>⟨[],rfl,fun _ h=>nomatch h⟩
 | t::ts,h=>by
  obtain ⟨k,e,hk⟩:=h t (bF ..);obtain ⟨b,e2,hb⟩:=Vr fun x hx=>h x (bX _ hx);refine ⟨k::b,by rw [e,e2]; rfl,fun x hx=>?_⟩;rcases Qv hx with hx | hx
  ·rw [hx]; exact hk
  ·exact hb x hx
theorem zi3 {k j:Kd} (e:k.kt=j.kt):k=j:=by
 obtain ⟨n,w,rs⟩:=k;obtain ⟨n2,w2,XU⟩:=j
 injection e with e1 e2 e3
 injection e1 with e1
 injection e2 with e2
 injection e3 with e3
 have e3:rs.map Ru.enc=XU.map Ru.enc:=e3;have e1:n=n2:=e1;have e2:w=w2:=e2;subst e1 e2;have:rs=XU:=by
  refine (List.map_inj_right ?_).mp e3;intro x y h;have h':PyData.tuple [x.1.enc,x.2.enc]=.tuple [y.1.enc,y.2.enc]:=h
  injection h' with h'
  injection h' with a h'
  injection h' with b _
  exact Prod.ext (Gr.fN a) (Gr.fN b)
 rw [this]
theorem Pn {c:Bk} (e:b.map Kd.kt=c.map Kd.kt):b=c:=(List.map_inj_right (fun _ _=>zi3)).mp e
theorem Xn:∀ {rs:List Ru} {zs:List V},TgAll K H zs (rs.map Ru.enc)->Bears K H Ru.enc zs rs
 | [],_,.nil=>.nil
 | r::rs,_,.cons h t=>by
  refine .cons ?_ (Xn t);cases (h:Tg K H _ (.tuple [r.1.enc,r.2.enc])) with
  | tup hs ha =>
   cases ha with
   | cons h1 ha =>
   cases ha with
   | cons h2 ha =>
   cases ha;cases h1 with
   | tup a1 b1 =>
   cases h2 with
   | tup a2 b2=>exact .tup hs (.cons (.tup a1 (C1 r.1 b1)) (.cons (.tup a2 (C1 r.2 b2)) .nil))
def Gm (K:Qn) (H:Hp) (bad:List Addr) (v:V) (k:Kd):Prop:=∃ (t l:Addr) (zs:List V),v=.ref t/\SqT K H t [.str k.n,.bl k.w,.ref l]/\H l=some (.lst zs)/\Bears K H Ru.enc zs k.rs/\l ∉ bad
theorem zi9 {k:Kd} (h:Gp K H v k.kt):Gm K H [] v k:=by
 obtain ⟨t,x,y,z,e0,h1,h2,h3,l,zs,rfl,h5,h6⟩:=h;have h3:y=.bl k.w:=h3;subst h3;cases h2;exact ⟨t,l,zs,e0,h1,h5,Xn h6,aL⟩
def dc (H:Hp) (bad ps:List Addr):Prop:=∀ p ∈ ps,p ∈ bad\/∀ xs,H p ≠ some (.lst xs)
theorem dc.nil:dc H bad []:=fun _ z=>nomatch z
theorem dc.self:dc H bad bad:=fun _ z=>.inl z
theorem Gm.sb {k:Kd} {v:V} {ps bad:List Addr} (h:Gm K H bad v k) (e:SB ps H H') (n:dc H bad ps):Gm K H' bad v k:=by
 obtain ⟨t,l,zs,e0,h1,h2,h3,h4⟩:=h;exact ⟨t,l,zs,e0,e.aP h1,e.keep _ _ h2 fun z=>(n _ z).elim h4 fun y=>y _ h2,h3.sb e Ru.ag,h4⟩
inductive KdAll (K:Qn) (H:Hp) (bad:List Addr):List V->Bk->Prop
 | nil:KdAll K H bad [] []
 | cons {v:V} {k:Kd} {vs:List V} {b:Bk}:Gm K H bad v k->KdAll K H bad vs b->KdAll K H bad (v::vs) (k::b)
theorem KdAll.sb {ps bad:List Addr} (e:SB ps H H') (n:dc H bad ps):∀ {vs:List V} {b:Bk},KdAll K H bad vs b->KdAll K H' bad vs b
 | _,_,.nil=>.nil
 | _,_,.cons h t=>.cons (h.sb e n) (KdAll.sb e n t)
theorem KdAll.less {bad bad':List Addr} (hb:∀ x ∈ bad',x ∈ bad):∀ {vs:List V} {b:Bk},KdAll K H bad vs b->KdAll K H bad' vs b
 | _,_,.nil=>.nil
 | _,_,.cons ⟨t,l,zs,h1,h2,h3,h4,h5⟩ r=>.cons ⟨t,l,zs,h1,h2,h3,h4,fun z=>h5 (hb l z)⟩ (KdAll.less hb r)
theorem KdAll.append {bad:List Addr}:∀ {xs ys:List V} {bs cs:Bk},KdAll K H bad xs bs->KdAll K H bad ys cs->KdAll K H bad (xs++ys) (bs++cs)
 | _,_,_,_,.nil,h=>h
 | _,_,_,_,.cons a b,h=>.cons a (KdAll.append b h)
theorem KdAll.length {bad:List Addr}:∀ {vs:List V} {ts:Bk},KdAll K H bad vs ts->vs.length=ts.length
 | _,_,.nil=>rfl
 | _,_,.cons h t=>by rw [Yk,Yk,KdAll.length t]
theorem KdAll.get {bad:List Addr}:∀ {vs:List V} {ts:Bk} {i:Nat} {v:V},KdAll K H bad vs ts->vs[i]?=some v->∃ t,ts[i]?=some t/\Gm K H bad v t
 | _,_,i,v,.nil,h=>by simp at h
 | _,_,0,v,.cons h t,e=>by simp at e; subst e; exact ⟨_,Ja,h⟩
 | _,_,i+1,v,.cons h t,e=>by
  simp at e;obtain ⟨t',e',h'⟩:=KdAll.get (i:=i) t e;exact ⟨t',by simpa using e',h'⟩
theorem KTAll.kd:∀ {b:Bk} {vs:List V},KTAll K H vs (b.map Kd.kt)->KdAll K H [] vs b
 | [],_,.nil=>.nil
 | k::b,_,.cons h t=>.cons (zi9 h) (KTAll.kd t)
theorem Xs {zs:List V}:∀ {rs:List Ru} {zs:List V},(∀ r ∈ rs,dC r)->Bears K H Ru.enc zs rs->TgAll K H zs (rs.map Ru.enc)
 | [],_,_,.nil=>.nil
 | r::rs,_,ok,.cons h t=>by
  refine .cons ?_ (Xs (zs:=zs) (fun x hx=>ok x (bX _ hx)) t);obtain ⟨o1,o2,_⟩:=ok r (bF ..);cases (h:Dp K H _ (.tuple [r.1.enc,r.2.enc])) with
  | tup hs ha =>
   cases ha with
   | cons h1 ha =>
   cases ha with
   | cons h2 ha =>
   cases ha;exact .tup hs (.cons (Wq o1 h1) (.cons (Wq o2 h2) .nil))
theorem KdAll.kt {bad:List Addr}:∀ {b:Bk} {vs:List V},(∀ k ∈ b,fm k.n/\∀ r ∈ k.rs,dC r)->KdAll K H bad vs b->KTAll K H vs (b.map Kd.kt)
 | [],_,_,.nil=>.nil
 | k::b,_,ok,.cons h t=>by
  refine .cons ?_ (KdAll.kt (fun x hx=>ok x (bX _ hx)) t);obtain ⟨t,l,zs,e0,h1,h2,h3,_⟩:=h;obtain ⟨o1,o2⟩:=ok k (bF ..);exact ⟨t,_,_,_,e0,h1,.str _ (zbj o1),Ja,l,zs,Ja,h2,Xs (zs:=zs) o2 h3⟩
theorem zcw (h:dC r):OY (Ru.enc r):=by
 obtain ⟨h1,h2,h3⟩:=h;have d1:=qL r.1;have d2:=qL r.2;have e1:=r.1.cy;have e2:=r.2.cy;obtain ⟨w1,w2⟩:=NH r.1;obtain ⟨w3,w4⟩:=NH r.2;refine ⟨?_,?_,fun a b e g hg=>?_⟩
 ·show PyData.depth (.tuple [.tuple r.1.encs,.tuple r.2.encs])<=60;simp only [PyData.depth,PyData.depthAll]; omega
 ·show wide (.tuple [.tuple r.1.encs,.tuple r.2.encs])<=1000;simp only [wide,tj,Yk,List.length_nil]; omega
 ·have e':PyData.tuple [r.1.enc,r.2.enc]=.tuple [a,b]:=e
  injection e' with e'
  injection e' with ea e'
  injection e' with eb _
  rcases hg with hg | hg
  ·rw [<- ea] at hg; rw [<- Gr.fN hg]; omega
  ·rw [<- eb] at hg; rw [<- Gr.fN hg]; omega
theorem zdh {k:Kd} (h:k.rs.length<=4/\∀ r ∈ k.rs,dC r):Nm k.kt:=by
 intro ds e;have e:some (k.rs.map Ru.enc)=some ds:=e
 injection e with e
 subst e;refine ⟨by rw [Ye]; omega,fun x hx=>?_⟩;obtain ⟨r,hr,rfl⟩:=Qx hx;exact zcw (h.2 r hr)
end
section
variable {J:It} {n:Nat} {G:Hp->Prop} {Y:Nat->Hp->V->Hp->Prop}
theorem Vw (w:Walk J n G Y) {g:TG} {tt:TT} {tk tv:TE} {vs:List Nat} {σ:L2.St} {H:Hp} {D:Addr} {Qd:Hp->Prop} (hD:H D=none) (hn:n < sizeLine) (R:Nat->List (Key × V)->Hp->Prop) (h0:R 0 [] H) (hG:∀ H2,SB [] H H2->G H2)
  (st:∀ i us H2 H3,SB [D] H2 H3->R i us H2->R i us H3)
  (turn:∀ (Pv:Hp->Prop) i x H2 H' aQ,i < n->SB [] H H2->Y i H2 x H'->R i aQ H2->aQ.length<=i->(∀ k z H5,SB [] H2 H5->R (i+1) (putK aQ k z) H5->∃ aQ k',kV k=kV k'/\H5 D=some (.dK aQ)/\aQ.length < sizeLine/\Pv (upd H5 D (.dK (putK aQ k' z)))) ->
   (∀ H4,SB [] H2 H4->R (i+1) aQ H4->Pv H4)->g x (wipe σ vs) H' fun σ2 H3=>wipe σ2 vs=wipe σ vs/\tt σ2 H3 fun b H4 =>
    if b=true then tk σ2 H4 fun y H5=>tv σ2 H5 fun z H6=>∃ aQ k,y=kV k/\H6 D=some (.dK aQ)/\aQ.length < sizeLine/\Pv (upd H6 D (.dK (putK aQ k z))) else Pv H4)
  (done:∀ aQ H2,SB [] H H2->H2 D=some (.dK aQ)->R n aQ H2->aQ.length<=n->Qd H2) :
  ∃ W:Nat->Nat->Hp->Prop,(∃ m,W 0 m (upd H D (.dK [])))/\∀ i m H,W i m H ->
   (J.stop i H/\Qd H)\/(J.go i H/\∃ Nx:Hp->Prop,(∀ H',Nx H'->∃ m',m' < m/\W (i+1) m' H')/\∀ x H',J.yld i H x H'->g x (wipe σ vs) H' fun σ2 H2=>wipe σ2 vs=wipe σ vs/\tt σ2 H2 fun b H3 =>
    if b=true then tk σ2 H3 fun y H4=>tv σ2 H4 fun z H5=>∃ aQ k,y=kV k/\H5 D=some (.dK aQ)/\aQ.length < sizeLine/\Nx (upd H5 D (.dK (putK aQ k z))) else Nx H3):=by
 refine DM (body:=fun Nx x H'=>g x (wipe σ vs) H' fun σ2 H2=>wipe σ2 vs=wipe σ vs/\tt σ2 H2 fun b H3 =>
    if b=true then tk σ2 H3 fun y H4=>tv σ2 H4 fun z H5=>∃ aQ k,y=kV k/\H5 D=some (.dK aQ)/\aQ.length < sizeLine/\Nx (upd H5 D (.dK (putK aQ k z))) else Nx H3) w (fun i H2=>SB [D] H H2/\∃ aQ,H2 D=some (.dK aQ)/\R i aQ H2/\aQ.length<=i)
  ⟨SB.new hD _,[],Qt,st _ _ _ _ (SB.new hD _) h0,Yc _⟩ (fun i H2 _ h=>hG H2 (h.1.drop hD)) (fun i x H2 H' hi h y=>?_) (fun H2 h=>?_)
 ·obtain ⟨s2,aQ,aW,hR,hl⟩:=h;refine turn _ i x H2 H' aQ hi (s2.drop hD) y hR hl (fun k z H5 s5 r5=>?_) (fun H4 s4 r4=>⟨s2.trans s4.nil,aQ,s4.keep _ _ aW aL,r4,by omega⟩);have eW:=s5.keep _ _ aW aL;refine ⟨aQ,k,Ja,eW,by omega,(s2.trans s5.nil).trans (SB.jI eW (by simp) _),_,Qt,st _ _ _ _ (SB.jI eW (by simp) _) r5,?_⟩;have:=length_putK aQ k z;omega
 ·obtain ⟨s2,aQ,aW,hR,hl⟩:=h;exact done aQ H2 (s2.drop hD) aW hR hl
end
theorem FJ {k:Key} (h:∀ p ∈ aQ,p.1 ≠ k):putK aQ k v=aQ++[(k,v)]:=by
 unfold putK;rw [if_neg];intro z;obtain ⟨p,hp,e⟩:=List.any_eq_true.mp z;exact h p hp (Ks e)
theorem Bk.mh (nd:b.names.Nodup) {i:Nat} {k:Kd} (h:b[i]?=some k):∀ j ∈ b.take i,j.n ≠ k.n:=by
 intro j hj e;have e1:b.names=(b.take i).map (·.n)++(b.drop i).map (·.n):=by rw [<- Yj,List.take_append_drop]
 rw [e1] at nd;exact (List.nodup_append.mp nd).2.2 j.n (Ku ⟨j,hj,Ja⟩) k.n (Ku ⟨k,List.mem_of_getElem? (i:=0) (by rw [List.getElem?_drop]; exact h),Ja⟩) e
theorem SB.setG {o:HO} {ps:List Addr} (h:H p=some o) (hp:p ∈ ps) (n1:∀ xs,o ≠ .tup xs) (n2:∀ u v,o ≠ .frz u v) (o':HO):SB ps H (upd H p o'):=by
 refine ⟨fun b u e n=>?_,fun b u e=>?_,fun b v u e=>?_,fun b e=>?_⟩
 ·rw [upd_ne (fun (z:b=p)=>n (by rw [z]; exact hp))]; exact e
 ·rw [upd_ne (fun (z:b=p)=>by subst z; rw [h] at e; exact n1 _ (Yd e))]; exact e
 ·rw [upd_ne (fun (z:b=p)=>by subst z; rw [h] at e; exact n2 _ _ (Yd e))]; exact e
 ·by_cases q:b=p
  ·subst q; rw [Qt] at e; cases e
  ·rw [upd_ne q] at e; exact e
theorem WT:∀ {b:Bk} {us:List V} {p:Key × V},p ∈ b.i6 us->∃ j ∈ b,p.1=Sum.inr j.n
 | [],_,p,h=>by cases h
 | k::b,[],p,h=>by cases h
 | k::b,u::us,p,h=>by
  rcases Qv (show p ∈ (Sum.inr k.n,u)::Bk.i6 b us from h) with h | h
  ·exact ⟨k,bF ..,by rw [h]⟩
  ·obtain ⟨j,hj,e⟩:=WT h;exact ⟨j,bX _ hj,e⟩
section
variable {J:It} {n:Nat} {G:Hp->Prop} {Y:Nat->Hp->V->Hp->Prop}
theorem zf7 (w:Walk J n G Y) (ps:List Addr) {g:TG} {tt:TT} {te:TE} {vs:List Nat} {σ:L2.St} {H:Hp} {D:Addr} {Qd:Hp->Prop} (hD:H D=none) (DX:∀ q ∈ ps,H q ≠ none) (hn:n < sizeLine) (R:Nat->List V->Hp->Prop) (h0:R 0 [] H) (hG:∀ H2,SB ps H H2->G H2)
  (st:∀ i us H2 H3,SB [D] H2 H3->R i us H2->R i us H3)
  (turn:∀ (Pv:Hp->Prop) i x H2 H' us,i < n->SB ps H H2->Y i H2 x H'->R i us H2->us.length<=i->(∀ y H5,SB ps H2 H5->R (i+1) (us++[y]) H5->∃ acc,H5 D=some (.lst acc)/\acc.length < sizeLine/\Pv (upd H5 D (.lst (acc++[y])))) ->
   (∀ H4,SB ps H2 H4->R (i+1) us H4->Pv H4)->g x (wipe σ vs) H' fun σ2 H3=>wipe σ2 vs=wipe σ vs/\tt σ2 H3 fun b H4 =>
    if b=true then te σ2 H4 fun y H5=>∃ acc,H5 D=some (.lst acc)/\acc.length < sizeLine/\Pv (upd H5 D (.lst (acc++[y]))) else Pv H4)
  (done:∀ us H2,SB ps H H2->H2 D=some (.lst us)->R n us H2->us.length<=n->Qd H2) :
  ∃ W:Nat->Nat->Hp->Prop,(∃ m,W 0 m (upd H D (.lst [])))/\∀ i m H,W i m H ->
   (J.stop i H/\Qd H)\/(J.go i H/\∃ Nx:Hp->Prop,(∀ H',Nx H'->∃ m',m' < m/\W (i+1) m' H')/\∀ x H',J.yld i H x H'->g x (wipe σ vs) H' fun σ2 H2=>wipe σ2 vs=wipe σ vs/\tt σ2 H2 fun b H3 =>
    if b=true then te σ2 H3 fun y H4=>∃ acc,H4 D=some (.lst acc)/\acc.length < sizeLine/\Nx (upd H4 D (.lst (acc++[y]))) else Nx H3):=by
 have nD:D ∉ ps:=fun z=>DX D z hD;have up:∀ {H1 H2:Hp},SB ps H1 H2->SB (D::ps) H1 H2:=fun e=>e.mono fun b hb=>bX _ hb;have up1:∀ {H1 H2:Hp},SB [D] H1 H2->SB (D::ps) H1 H2:=fun e=>e.mono fun b hb=>by rw [Qy hb]; exact bF ..
 refine lc_it w (fun i H2=>SB (D::ps) H H2/\∃ us,H2 D=some (.lst us)/\R i us H2/\us.length<=i) ⟨SB.new hD _,[],Qt,st _ _ _ _ (SB.new hD _) h0,Yc _⟩ (fun i H2 _ h=>hG H2 (h.1.drop hD)) (fun i x H2 H' hi h y=>?_) (fun H2 h=>?_)
 ·obtain ⟨s2,us,aW,hR,hl⟩:=h;refine turn _ i x H2 H' us hi (s2.drop hD) y hR hl (fun y H5 s5 r5=>?_) (fun H4 s4 r4=>⟨s2.trans (up s4),us,s4.keep _ _ aW nD,r4,by omega⟩);have eW:=s5.keep _ _ aW nD;refine ⟨us,eW,by omega,(s2.trans (up s5)).trans (SB.set eW (by simp) _),_,Qt,st _ _ _ _ (SB.set eW (by simp) _) r5,?_⟩;rw [Yf,Yi]; omega
 ·obtain ⟨s2,us,aW,hR,hl⟩:=h;exact done us H2 (s2.drop hD) aW hR hl
end
abbrev zge (K:Qn):V->List V->Hp->VK->Prop:=fun x xs H Q=>∃ a p,∃ ys:List Str,x=.str a/\xs=[.ref p]/\(SqL K H p (ys.map V.str)\/SqT K H p (ys.map V.str))/\(ys.map (·.length)).sum+ys.length*a.length<=16777216/\Q (.str (Txt.join a ys)) H
theorem zdl:∀ r:Nat,r < 26->ti.cps.toList[r]?=some (97+r):=by
 have:∀ r:Fin 26,ti.cps.toList[r.val]?=some (97+r.val):=by decide +kernel
 intro r hr;exact this ⟨r,hr⟩
theorem jz.mid {a b:Str} {c:Nat} (ha:jz a n):(a++⟨#[c]⟩++b).cps.toList[n]?=some c:=by
 have e:(a++⟨#[c]⟩++b).cps.toList=a.cps.toList++(c::b.cps.toList):=by show (a.cps++#[c]++b.cps).toList=_; simp
 rw [e,List.getElem?_append_right (by rw [ha.1]; exact Yc _),ha.1,Nat.sub_self]
 rfl
theorem nodup_range {α:Type} {F:Nat->α} {m:Nat} (h:∀ i j,i < m->j < m->i ≠ j->F i ≠ F j):((List.range m).map F).Nodup:=by
 refine List.pairwise_map.mpr (List.Pairwise.imp_of_mem (fun {i j} hi hj hn=>h i j (List.mem_range.mp hi) (List.mem_range.mp hj) hn) List.nodup_range)
section
variable {D:Ends} {σ:L2.St} {H:Hp} {t u:TS} {te:TE} {g:TG} {c:TT}
theorem BK {f:L2.St->Hp->Prop} {r:VK} {b c':L2.St->Hp->Prop} (h:f σ H):tNext ⟨f,r,b,c'⟩ σ H:=h
theorem IF (h:t { D with nx:=u D } σ H):tSeq t u D σ H:=h
theorem Me (h:te σ H fun x H1=>g x σ H1 D.nx):tAsg te g D σ H:=h
theorem ifI (h:c σ H fun b H1=>if b=true then t D σ H1 else u D σ H1):tIfS c t u D σ H:=h
end
theorem z9t {zs:List Str} (h:∀ z ∈ zs,fm z):SeqAt.shaped (.list (zs.map .str))=true:=by
 have h1:PyData.canLayAll0 (zs.map .str)=true:=by
  induction zs with
  | nil=>simp [PyData.canLayAll0]
  | cons z r ih =>
   rw [Ky,PyData.canLayAll0,ih fun y hy=>h y (bX _ hy)];simp [PyData.canLay0,Gr.eF (h z (bF ..))]
 have h2:PyData.depthAll (zs.map .str)=0:=by
  clear h1 h
  induction zs with
  | nil=>simp [PyData.depthAll]
  | cons z r ih=>rw [Ky,PyData.depthAll,ih]; simp [PyData.depth]
 unfold SeqAt.shaped;rw [PyData.canLay0,h1,Bool.true_and];exact Ya (by simp only [PyData.depth,h2]; omega)
theorem zel (zs:List Str):PyData.eqv (.list (zs.map .str)) (.list [])=decide (zs=[]):=by
 cases zs with
 | nil=>decide +kernel
 | cons z r=>simp [PyData.eqv,PyData.eqvAll]
section
variable {J:It} {n:Nat} {G:Hp->Prop} {Y:Nat->Hp->V->Hp->Prop}
theorem Nz (w:Walk J n G Y) (ps:List Addr) {g:TG} {tt:TT} {te:TE} {vs:List Nat} {σ:L2.St} {H:Hp} {D:Addr} {Qd:Hp->Prop} (hD:H D=none) (DX:∀ q ∈ ps,H q ≠ none) (hn:n < sizeLine) (R:Nat->List V->Hp->Prop) (h0:R 0 [] H) (hG:∀ H2,SB ps H H2->G H2)
  (st:∀ i us H2 H3,SB [D] H2 H3->R i us H2->R i us H3)
  (turn:∀ (Pv:Hp->Prop) i x H2 H' us,i < n->SB ps H H2->Y i H2 x H'->R i us H2->us.length<=i->H2 D=some (.lst us)->(∀ y H5,SB ps H2 H5->R (i+1) (us++[y]) H5->∃ acc,H5 D=some (.lst acc)/\acc.length < sizeLine/\Pv (upd H5 D (.lst (acc++[y])))) ->
   (∀ H4,SB ps H2 H4->R (i+1) us H4->Pv H4)->g x (wipe σ vs) H' fun σ2 H3=>wipe σ2 vs=wipe σ vs/\tt σ2 H3 fun b H4 =>
    if b=true then te σ2 H4 fun y H5=>∃ acc,H5 D=some (.lst acc)/\acc.length < sizeLine/\Pv (upd H5 D (.lst (acc++[y]))) else Pv H4)
  (done:∀ us H2,SB ps H H2->H2 D=some (.lst us)->R n us H2->us.length<=n->Qd H2) :
  ∃ W:Nat->Nat->Hp->Prop,(∃ m,W 0 m (upd H D (.lst [])))/\∀ i m H,W i m H ->
   (J.stop i H/\Qd H)\/(J.go i H/\∃ Nx:Hp->Prop,(∀ H',Nx H'->∃ m',m' < m/\W (i+1) m' H')/\∀ x H',J.yld i H x H'->g x (wipe σ vs) H' fun σ2 H2=>wipe σ2 vs=wipe σ vs/\tt σ2 H2 fun b H3 =>
    if b=true then te σ2 H3 fun y H4=>∃ acc,H4 D=some (.lst acc)/\acc.length < sizeLine/\Nx (upd H4 D (.lst (acc++[y]))) else Nx H3):=by
 have nD:D ∉ ps:=fun z=>DX D z hD;have up:∀ {H1 H2:Hp},SB ps H1 H2->SB (D::ps) H1 H2:=fun e=>e.mono fun b hb=>bX _ hb;have up1:∀ {H1 H2:Hp},SB [D] H1 H2->SB (D::ps) H1 H2:=fun e=>e.mono fun b hb=>by rw [Qy hb]; exact bF ..
 refine lc_it w (fun i H2=>SB (D::ps) H H2/\∃ us,H2 D=some (.lst us)/\R i us H2/\us.length<=i) ⟨SB.new hD _,[],Qt,st _ _ _ _ (SB.new hD _) h0,Yc _⟩ (fun i H2 _ h=>hG H2 (h.1.drop hD)) (fun i x H2 H' hi h y=>?_) (fun H2 h=>?_)
 ·obtain ⟨s2,us,aW,hR,hl⟩:=h;refine turn _ i x H2 H' us hi (s2.drop hD) y hR hl aW (fun y H5 s5 r5=>?_) (fun H4 s4 r4=>⟨s2.trans (up s4),us,s4.keep _ _ aW nD,r4,by omega⟩);have eW:=s5.keep _ _ aW nD;refine ⟨us,eW,by omega,(s2.trans (up s5)).trans (SB.set eW (by simp) _),_,Qt,st _ _ _ _ (SB.set eW (by simp) _) r5,?_⟩;rw [Yf,Yi]; omega
 ·obtain ⟨s2,us,aW,hR,hl⟩:=h;exact done us H2 (s2.drop hD) aW hR hl
end
section
variable {K:Qn} {H H':Hp}
theorem NM {α:Type} {enc:α->PyData}:∀ {vs:List V} {xs:List α},Bears K H enc vs xs->DpAll K H vs (xs.map enc)
 | _,_,.nil=>.nil
 | _,_,.cons h t=>.cons h (NM t)
end
theorem WV {n:Nat}:∀ {ds:List PyData},(∀ d ∈ ds,d.depth<=n)->PyData.depthAll ds<=n
 | [],_=>by simp [PyData.depthAll]
 | d::ds,h=>by
  have h1:=h d (bF ..);have h2:=WV fun x hx=>h x (bX _ hx);rw [PyData.depthAll]; omega
theorem zc9 (h:plS d=true) (hd:d.depth<=64):SeqAt.shaped d=true:=by
 unfold SeqAt.shaped;rw [VO d h,Bool.true_and];exact Ya hd
open TL (tl)
theorem NF {t rest:TS} {D:Ends} {σ:L2.St} (R:L2.St->Hp->Prop) (h:∀ nx:L2.St->Hp->Prop,(∀ σ' H',R σ' H'->nx σ' H')->t { D with nx:=nx } σ H) (k:∀ σ' H',R σ' H'->rest D σ' H'):tSeq t rest D σ H:=h (rest D) k
theorem fQ {σ:L2.St} {f:L2.St->Hp->Prop} {r:VK} {b c:L2.St->Hp->Prop} (h:f (σ.set i (some v)) H):gName i v σ H (Ends.mk f r b c).nx:=h
theorem Bk.Ok.two (ok:b.Ok):∀ k ∈ b,k.rs.length<=4/\∀ r ∈ k.rs,dC r:=fun k hk=>⟨(ok.kd k hk).2.1,fun r hr=>((ok.kd k hk).2.2 r hr).1⟩
theorem Bk.Ok.three (ok:b.Ok):∀ k ∈ b,fm k.n/\∀ r ∈ k.rs,dC r:=fun k hk=>⟨(ok.kd k hk).1,(ok.two k hk).2⟩
theorem zc1 {B:Addr} {l:Addr} (hl:H l=some (.lst xs)) (ha:KdAll K H bad xs b) (ok:b.Ok) (k:∀ y H',SB [] H H'->H y=none->fJ K C H' (.ref y) b->Q (.ref y) H') :
  ∀ y dx,H y=none->H dx=none->dx ≠ y->NA K C B (.ref y::[.ref l]) (upd (upd H dx (.own y)) y (.ins C dx [])) (fun v H2=>v=.non/\Q (.ref y) H2) E:=by
 intro y dx hy yF sh;have b8:=ok.len;have AZ:upd H dx (.own y) y=none:=by rw [upd_ne (fun z=>sh z.symm)]; exact hy
 have t4:=(Jb yF (.own y)).trans (SB.new AZ (.ins C dx []));have Sl:upd (upd H dx (.own y)) y (.ins C dx []) dx=some (.own y):=by rw [upd_ne sh,Qt]
 have z5:upd (upd H dx (.own y)) y (.ins C dx []) y=some (.ins C dx []):=Qt;refine ⟨y,dx,l,xs,b.map Kd.kt,Ja,z5,Sl,t4.keep _ _ hl aL,(ha.sb t4 dc.nil).kt ok.three,fun t ht=>?_,by rw [Ye]; omega,fun b' e ok' H5 s5 OE=>?_,fun z=>absurd ⟨b,rfl,ok⟩ z⟩
 ·obtain ⟨k,hk,rfl⟩:=Qx ht;exact zdh (ok.two k hk)
 ·have e:=Pn e;subst e;exact ⟨rfl,k y H5 (((t4.nil (ps:=[y])).trans s5).drop hy) hy OE⟩
theorem Vy {x:Int} {a b:Nat} (h:x.natAbs < 2 ^ a) (hb:a<=b) (h0:0 < a):x.natAbs.log2 < b:=by
 by_cases e:x.natAbs=0
 ·rw [e]; simp [Nat.log2_zero]; omega
 ·exact Nat.lt_of_lt_of_le ((Nat.log2_lt e).mpr h) hb
open PySem.Froz (SD sObj TxOk addTx tailTx)
structure TxS (P:Program) (w:World) (D:SD) (l:List Str):Prop where
 ok:TxOk P w D l
 nd:l.Nodup
 ris:Ris D.2.2.place.toList
 led:w.params.followText "set-order"=true\/D.2.2.led=true
def hI (k:Str) (l:List Str):List Str:=if k ∈ l then l else k::l
section
variable {P:Program} {w:World} {A:Around} {E:Value->Shared->Prop} {s:Shared} {D:SD} {l:List Str} {k:Str} {u:Tok} {a:Addr} {T:String}
theorem zbs {es:Array (Int × Value)} {ep:Nat} {t:SetTable} {b:Bool} (r:Ris t.place.toList) (d:w.params.followText "set-order"=true\/t.led=true) :
  Ris (tailTx ep es t b).2.2.place.toList/\(w.params.followText "set-order"=true\/(tailTx ep es t b).2.2.led=true):=by
 unfold tailTx
 split
 ·exact ⟨relayAll_ris ..,d.imp id fun z=>by rw [relayAll_led]; exact z⟩
 ·exact ⟨r,d⟩
theorem TxS.add (F:TxS P w D l) (hk:k ∉ l):TxS P w (addTx (hashStr w k) (.str k u) D) (k::l):=by
 obtain ⟨es,ep,t⟩:=D;have r1:=layNew_ris t es (hashStr w k) (.str k u) F.ris;have d1:=F.led.imp id fun z=>(layNew_led t es (hashStr w k) (.str k u)).trans z;have key:∀ t':SetTable,t'.place=(layNew t es (hashStr w k) (.str k u)).2.1.place->t'.led=(layNew t es (hashStr w k) (.str k u)).2.1.led->∀ Tw b,Ris (tailTx ep Tw t' b).2.2.place.toList/\(w.params.followText "set-order"=true\/(tailTx ep Tw t' b).2.2.led=true) :=
  fun t' e1 e2 Tw b=>zbs (by rw [e1]; exact r1) (by rw [e2]; exact d1)
 have z:=key (if (layNew t es (hashStr w k) (.str k u)).2.1.plain=true then { (layNew t es (hashStr w k) (.str k u)).2.1 with plain:=false } else (layNew t es (hashStr w k) (.str k u)).2.1) (by split <;> rfl) (by split <;> rfl) (layNew t es (hashStr w k) (.str k u)).1 (layNew t es (hashStr w k) (.str k u)).2.2.1;exact ⟨PySem.Froz.add_ok u F.ok,List.nodup_cons.mpr ⟨hk,F.nd⟩,z.1,z.2⟩
theorem zcf {Q:Bool->Shared->Prop} (ho:s.heap.get? a=some (sObj T D)) (F:TxOk P w D l) (hk:k ∈ l) (hb:l.length < scanBound) (h:Q false s):wpAny (model P w) A (setAddHashed a (.str k u) (hashStr w k)) Q E s:=by
 obtain ⟨es,ep,t⟩:=D;have hd:(sObj T (es,ep,t)).data=.set es ep t:=rfl;have Ca:ElemsOf (strKind P w) es.toList:=F.el;have oz:es.size=l.length:=F.sz;have is0:(strKind P w).is k (.str k u)=true:=PySem.Froz.is_str k u;obtain ⟨j,hj⟩:∃ j,List.findIdx? (fun e=>(strKind P w).is k e.2) es.toList=some j:=by
  cases e:List.findIdx? (fun e=>(strKind P w).is k e.2) es.toList with
  | some j=>exact ⟨j,Ja⟩
  | none =>
   obtain ⟨x,hx,hi⟩:=(F.mem k).mp hk;have:=List.findIdx?_eq_none_iff.mp e x hx;rw [hi] at this;cases this
 unfold setAddHashed setAddHashedIn;refine wpAny_holding (Ke (wpAny_setState_of ho hd F.fit ?_));dsimp only;rw [byScan_of rfl (by rw [oz]; exact hb) Ca];simp only [↓reduceIte];unfold setAddByScan;refine Ke (Ke (wpAny_rule (Ke (wpAny_setScan_of (knd:=strKind P w) (k:=k) is0 ho hd F.fit Ca ?_))));rw [hj];exact wpAny_pure (wpAny_pure h)
theorem zfa {Q:Bool->Shared->Prop} (ho:s.heap.get? a=some (sObj T D)) (F:TxS P w D l) (hb:l.length+1 < scanBound)
  (h:∀ (b:Bool) (h':Heap) (D':SD),Heap.SameBut a s.heap h'->h'.get? a=some (sObj T D')->TxS P w D' (hI k l)->Q b { s with heap:=h' }):wpAny (model P w) A (setAddHashed a (.str k u) (hashStr w k)) Q E s:=by
 by_cases hk:k ∈ l
 ·refine zcf ho F.ok hk (by omega) (h false s.heap D (Heap.SameBut.refl a s.heap) ho ?_);unfold hI;rw [if_pos hk];exact F
 ·refine PySem.Froz.add_x ho F.ok hk hb (h true _ _ (Heap.SameBut.update ..) (PySem.Froz.get_upd _ ho rfl) ?_);unfold hI;rw [if_neg hk];exact F.add hk
end
section
variable {P:Program} {w:World} {A:Around} {E:Value->Shared->Prop} {s:Shared} {D:SD} {l:List Str} {k:Str} {u:Tok} {a:Addr}
theorem zd9 {Q:Value->Shared->Prop} (ho:s.heap.get? a=some (sObj "set" D)) (F:TxS P w D l) (hb:l.length+1 < scanBound)
  (h:∀ (h':Heap) (D':SD),Heap.SameBut a s.heap h'->h'.get? a=some (sObj "set" D')->TxS P w D' (hI k l)->Q .none { s with heap:=h',toks:=s.toks+1 }):wpAny (model P w) A (call (.builtin "set.add") [.ref a,.str k u]) Q E s:=by
 refine wpAny_call_entry PySem.F.slot_set_add ⟨_,ho,Ja⟩ PySem.F.entry_set_add ?_ (PySem.F.args_set_add_2 _ _);unfold Builtin.«set.add» Builtin.Frozenset.oneOther;simp only [List.isEmpty_nil,bind_assoc];unfold Builtin.Frozenset.addrOf setAdd;refine Ke (wpAny_pure ?_)
 try dsimp only
 refine Ke (wpAny_pure ?_)
 try dsimp only
 refine Ke (wpAny_holding (Ke ((strKind P w).pyHash (k:=k) (PySem.Froz.is_str k u) ?_)));refine zfa (s:={ s with toks:=s.toks+1 }) ho F hb fun b h' D' sb o' F'=>?_;refine (?_:wpAny (model P w) _ (ret Value.none) _ E _);exact wpAny_pure ⟨_,Ja,h h' D' sb o' F'⟩
end
def bZ (P:Program) (w:World) (a:Addr) (l:List Str):HO:=.ext fun h=>∃ D:SD,h.get? a=some (sObj "set" D)/\TxS P w D l
theorem W0 {w:World} {l:List Str} {D:SD} (ho:h.get? a=some (sObj "set" D)) (F:TxS P w D l):ObjOk P w H h a (bZ P w a l) :=
 ⟨⟨D,ho,F⟩,⟨_,ho⟩,fun h1 h2 ⟨D',q,F'⟩ k=>⟨D',k _ q,F'⟩⟩
section
variable {X:Cx} {pins:List (Addr × Obj)} {σ:L2.St} {H:Hp} {s:Shared} {l:List Str}
theorem Xb (I:Inv X pins σ H s) (ha:H a=some (bZ X.prog X.w a l)):∃ D:SD,s.heap.get? a=some (sObj "set" D)/\TxS X.prog X.w D l:=(I.hok a _ ha).1
theorem zen {E:Value->Shared->Prop} {k:Str} {u:Tok} {Q:Value->Shared->Prop} (I:Inv X pins σ H s) (ha:H a=some (bZ X.prog X.w a l)) (room:l.length+1 < scanBound)
  (h:∀ s',Inv X pins σ (upd H a (bZ X.prog X.w a (hI k l))) s'->Q .none s'):wpAny (model X.prog X.w) X.A (call (.builtin "set.add") [.ref a,.str k u]) Q E s:=by
 obtain ⟨D,ho,F⟩:=Xb I ha;refine zd9 ho F room fun h' D' sb o' F'=>?_;exact h _ (I.write (e:=a) (t':=s.toks+1) (by rw [ha]; trivial) (.inl rfl) (fun b o hb hu=>(sb.2 b hb).trans hu) ⟨_,o'⟩ (W0 o' F'))
end
theorem zc4 (P:Program) (w:World):TxS P w (#[],0,.fresh 0 0 (!w.params.followText "set-order")) []:=by
 refine ⟨PySem.Froz.TxOk.nil rfl,List.nodup_nil,List.Pairwise.nil,?_⟩;show _\/(!w.params.followText "set-order")=true;cases w.params.followText "set-order"
 ·exact .inr rfl
 ·exact .inl rfl
theorem WM {w:World} {k:Str} {v:Value} (h:(strKind P w).is k v=true):∃ tk,v=Value.str k tk:=by
 have h:Value.isStrOf k v=true:=h;cases v <;> simp [Value.isStrOf] at h;exact ⟨_,by rw [h]⟩
theorem V1:∀ (l:List Value),(∀ v ∈ l,∃ k tk,v=Value.str k tk)->∃ ss:List Str,StrsAre l ss/\∀ k,k ∈ ss ↔ ∃ v ∈ l,∃ tk,v=Value.str k tk
 | [],_=>⟨[],.nil,fun k=>by simp⟩
 | v::r,h=>by
  obtain ⟨k,tk,rfl⟩:=h v (bF ..);obtain ⟨ss,h1,h2⟩:=V1 r fun x hx=>h x (bX _ hx);refine ⟨k::ss,.cons k tk h1,fun j=>?_⟩;rw [List.mem_cons,h2 j];refine ⟨fun z=>?_,fun ⟨x,hx,t',e⟩=>?_⟩
  ·rcases z with rfl | ⟨x,hx,e⟩
   ·exact ⟨_,bF ..,tk,Ja⟩
   ·exact ⟨x,bX _ hx,e⟩
  ·rcases Qv hx with q | q
   ·rw [q] at e; cases e; exact .inl rfl
   ·exact .inr ⟨x,q,t',e⟩
theorem VF {α:Type}:∀ {a b:List α},b.Nodup->a.length=b.length->(∀ k,k ∈ b->k ∈ a)->a.Perm b
 | a,[],_,hl,_=>by
  have:a=[]:=List.eq_nil_of_length_eq_zero hl;rw [this]
 | a,x::b,nd,hl,hm=>by
  obtain ⟨p,q,e⟩:=List.append_of_mem (hm x (bF ..));subst e;obtain ⟨n1,n2⟩:=List.nodup_cons.mp nd;have ih:=VF (a:=p++q) (b:=b) n2 (by simp at hl ⊢; omega) fun k hk=>by
   have hx:k ≠ x:=fun z=>n1 (z ▸ hk);have:=hm k (bX _ hk);simp only [List.mem_append,List.mem_cons] at this ⊢;rcases this with z | z | z
   ·exact .inl z
   ·exact absurd z hx
   ·exact .inr z
  exact List.perm_middle.trans (ih.cons x)
section
variable {P:Program} {w:World} {A:Around} {E:Value->Shared->Prop} {s:Shared} {D:SD} {l:List Str} {a:Addr}
theorem zb4 {Q:Value->Shared->Prop} (hh:A.handled=none) (ho:s.heap.get? a=some (sObj "set" D)) (F:TxS P w D l) (S8:l.length < 64)
  (h:∀ (s':Shared) (p:Addr) (out:Array Value) (c:Nat) (ss:List Str),(∀ b o,s.heap.get? b=some o->s'.heap.get? b=some o)->s'.gens=s.gens->s'.os=s.os->s.heap.objs.size<=p->s'.heap.get? p=some (seqObj "list" out c)->StrsAre out.toList ss->ss.Perm l->sortedS ss=true->Q (.ref p) s') :
  wpAny (model P w) A (call (.builtin "sorted") [.ref a]) Q E s:=by
 obtain ⟨es,ep,t⟩:=D;have oz:es.size=l.length:=F.ok.sz;have mK:es.size < scanBound:=by rw [oz]; unfold scanBound; omega
 refine Calls.call_function_entry kind_sorted plain_sorted entry_sorted (args_sorted1 _) ?_;unfold Builtin.«sorted»;refine wpAny_bind (m:=checkCount "sorted" 1 1 _) (wpAny_pure ?_);refine Ke (collect_set (A:=A.in1) hh ⟨_,ho,Ja,Ja⟩ F.ok.fit mK F.ris F.led fun s1 vs k1 z1 g1 o1 pm=>?_);have vl:vs.length=l.length:=by rw [pm.length_eq,Ye,Array.length_toList,oz]
 have shape:∀ v ∈ vs,∃ k tk,v=Value.str k tk:=fun v hv=>by
  obtain ⟨e,he,rfl⟩:=Qx (pm.mem_iff.mp hv);obtain ⟨⟨k,hk,_⟩,_⟩:=F.ok.el e he;obtain ⟨tk,q⟩:=WM hk;exact ⟨k,tk,q⟩
 obtain ⟨ss,hS,uG⟩:=V1 vs shape;have hp:ss.Perm l:=by
  refine VF F.nd (by rw [<- hS.length]; exact vl) fun k hk=>?_;obtain ⟨e,he,hi⟩:=(F.ok.mem k).mp hk;obtain ⟨tk,q⟩:=WM hi;exact (uG k).mpr ⟨e.2,pm.mem_iff.mpr (List.mem_map_of_mem he),tk,q⟩
 refine Ke (wpAny_newList ?_ (by rw [vl,sizeLine_eq]; omega));have Ud:(s1.heap.push (seqObj "list" vs.toArray 0)).get? s1.heap.objs.size=some (seqObj "list" vs.toArray 0):=Heap.get?_push_size _ rfl;refine Ke (wpAny_holding (wpAny_call_entry slot_list_sort ⟨_,Ud,Ja⟩ entry_list_sort (list_sort_treeK strKind_oneLt Ud hS.keysOf (fun v1 v2 r e=>keyKind_strs (by rw [<- e]; exact hS)) (by rw [vl]; exact S8) fun QL p1 p2=>⟨_,Ja,?_⟩) (args_list_sort _)));obtain ⟨Aw,q1,q2,q3⟩:=sorted_out_str hS p1 p2;obtain ⟨c,hc⟩:=sortedHeap_at (vs:=vs) (out:=(arrOf QL).map (·.2)) Ud;refine wpAny_pure ⟨_,Ja,h _ s1.heap.objs.size _ c Aw (fun b o e=>?_) g1 o1 z1 hc q1 (q2.trans hp) q3⟩;have e1:=k1 b o e;have lt:=Heap.lt_size e1;show (sortedHeap (s1.heap.push (seqObj "list" vs.toArray 0)) s1.heap.objs.size vs _).get? b=some o;rw [sortedHeap_old (Nat.ne_of_lt lt) (by rw [size_push']; exact Nat.lt_succ_of_lt lt)];exact Heap.get?_push_of_some _ e1
end
section
variable {X:Cx}
def zc7 (P:Program) (w:World):List V->Hp->VK->Prop:=fun vs H Q=>∃ (a:Addr) (l:List Str),vs=[.ref a]/\H a=some (bZ P w a l)/\l.length < 64/\∀ (ss:List Str) (p:Addr),ss.Perm l->sortedS ss=true->H p=none->Q (.ref p) (upd H p (.lst (ss.map V.str)))
theorem Xo (hc:X.calm=true):CallR X (.builtin "sorted") (zc7 X.prog X.w):=by
 intro pins s σ H vs us Q I r h;obtain ⟨a,l,rfl,ha,S8,q⟩:=h;obtain ⟨D,ho,F⟩:=Xb I ha;rw [Vals.ref1 r];refine zb4 (I.ok.hd hc) ho F S8 fun s' p out c ss kp eg eo hp at' hS pm srt=>?_;have hn:H p=none:=I.hok.fresh hp;have hz:(ss.map V.str).length<=sizeLine:=by rw [Ye,pm.length_eq,sizeLine_eq]; omega
 obtain ⟨h',g',d',XD,Q8⟩:=s';have eo:Q8=s.os:=eo;subst eo;exact ⟨.ref p,upd H p (.lst (ss.map V.str)),I.call (ch:=[]) (Un.laid kp hp hn) (I.hok.laid kp hp ⟨hz,out.toList,c,vals_of_strs hS,at'⟩) (by rw [show g'=s.gens from eg]; exact I.bare) (fun _ z=>nomatch z),rfl,q ss p pm srt hn⟩
end
section
variable {X:Cx}
def QH (P:Program) (w:World) (wi:TI) (g:TG) (tt:TT) (te:TE) (vs:List Nat):TE:=fun σ H Q=>wi σ H fun J H1=>∀ D,H1 D=none->∃ W:Nat->Nat->Hp->Prop,(∃ m,W 0 m (upd H1 D (bZ P w D [])))/\∀ i m Hi,W i m Hi ->
 (J.stop i Hi/\Q (.ref D) Hi)\/(J.go i Hi/\∃ Nx:Hp->Prop,(∀ H',Nx H'->∃ m',m' < m/\W (i+1) m' H')/\∀ x H',J.yld i Hi x H'->g x (wipe σ vs) H' fun σ2 H2=>wipe σ2 vs=wipe σ vs/\tt σ2 H2 fun b H3 =>
  if b=true then te σ2 H3 fun y H4=>∃ (z:Str) (l:List Str),y=.str z/\H4 D=some (bZ P w D l)/\l.length+1 < scanBound/\Nx (upd H4 D (bZ P w D (hI z l))) else Nx H3)
theorem Vu {elt tg iter:Expr} {ifs:List Expr} {scope:Scope} {own:List (PySem.Str × Nat)} {pos:Pos} {wi:TI} {g:TG} {tt:TT} {te:TE} (hc:X.calm=true) (hN:X.N.Nodup) (hi:PI X tg iter wi) (ok:BlkOk X.N X.env.scope scope own)
  (hg:∀ (s1:Shared) (H1:Hp) (C:Addr) (cl:List (PySem.Str × Addr)) (fp:List Addr),L2.PG (X.blk s1 H1 scope (compEnvC scope cl C X.env) fp) tg g) (ht:∀ (s1:Shared) (H1:Hp) (C:Addr) (cl:List (PySem.Str × Addr)) (fp:List Addr),L2.PTs (X.blk s1 H1 scope (compEnvC scope cl C X.env) fp) ifs tt)
  (he:∀ (s1:Shared) (H1:Hp) (C:Addr) (cl:List (PySem.Str × Addr)) (fp:List Addr),L2.PE (X.blk s1 H1 scope (compEnvC scope cl C X.env) fp) elt te) (hs:∀ x,foldedSetIterable iter X.env x=pure x:=by intro _; rfl) :
  PE X (.SetComp elt [⟨tg,iter,ifs,0⟩] scope pos) (QH X.prog X.w wi g tt te (own.map (·.2))):=by
 refine ⟨fun pins s σ H Q I h=>?_⟩;rw [PpSet.eval_SetComp];have clo:∀ y ∈ scope.names,y.2=.free->∃ c,X.env.cells.lookup y.1=some c:=fun y hy e=>(ok.free y hy e).elim (fun k=>I.ok.has _ (.inl k)) fun k=>I.ok.has _ (.inr k);refine wpAny_comprehension_free (use:=none) rfl hs (closure_ok clo) ok.kind (fun y hy e=>by rw [ok.uniq y hy,e]) (thn (hi.run pins s σ H _ I h) fun xv s1 hx=>thn hx fun itv s2 got=>?_);obtain ⟨it,fp,tn,J,Ha,e0,Ia,Tn,XH,Zk,walk⟩:=got;subst e0;refine PpSet.newSet_ok (newEnv_comp ?_)
 -- the new set,at the heap's end
 generalize eD:s2.heap.objs.size=D;have LJ:Ha D=none:=Ia.hok.fresh (Nat.le_of_eq eD);obtain ⟨W,⟨m0,w0⟩,turn⟩:=walk D LJ;generalize eb:({ s2 with heap:=s2.heap.push { cls:=.type "set",dict:=none,data:=.set #[] 0 (.fresh 0 0 (!X.w.params.followText "set-order")) } }:Shared)=sb;have sX:sb.heap=s2.heap.push { cls:=.type "set",dict:=none,data:=.set #[] 0 (.fresh 0 0 (!X.w.params.followText "set-order")) }:=by rw [<- eb]
 have Ib:Inv X pins σ (upd Ha D (bZ X.prog X.w D [])) sb:=by
  rw [<- eb];refine Ia.laid (t':=s2.toks) (fun b o e=>Heap.get?_push_of_some _ e) (Nat.le_of_eq eD) ?_;rw [<- eD];exact W0 (Heap.get?_push_size _ rfl) (zc4 X.prog X.w)
 have low:∀ b ∈ fp,b < s2.heap.objs.size:=fun b hb=>let ⟨o,e,_⟩:=Tn.obj _ _ XH b hb; Heap.lt_size e;have Ez:∀ b ∈ fp,FpOk X pins (upd Ha D (bZ X.prog X.w D [])) b/\b < sb.heap.objs.size:=fun b hb=>by
  refine ⟨⟨?_,(Zk b hb).2⟩,by rw [sX,Heap.size_push]; exact Nat.lt_succ_of_lt (low b hb)⟩;rw [upd_ne (by rw [<- eD]; exact Nat.ne_of_lt (low b hb))];exact (Zk b hb).1
 have stb:tn 0 sb.heap:=Tn.keep _ _ _ XH fun b _ o e=>by rw [sX]; exact Heap.get?_push_of_some _ e
 have Ic:=block_start Ib ok hN Ez;generalize eHb:upd Ha D (bZ X.prog X.w D [])=Hb at Ib Ic w0 Ez;have pg:=hg sb Hb sb.heap.objs.size (cellsFrom (sb.heap.objs.size+1) scope.names (cloFrom X.env.cells scope.names [])) fp;have pt:=ht sb Hb sb.heap.objs.size (cellsFrom (sb.heap.objs.size+1) scope.names (cloFrom X.env.cells scope.names [])) fp;have pe:=he sb Hb sb.heap.objs.size (cellsFrom (sb.heap.objs.size+1) scope.names (cloFrom X.env.cells scope.names [])) fp;show codeAny (model X.prog X.w) X.A (.compStart (.SetComp elt [⟨tg,iter,ifs,0⟩] scope pos) 0 (.ref it) (.ref D) (compEnvC scope (cellsFrom (sb.heap.objs.size+1) scope.names (cloFrom X.env.cells scope.names [])) sb.heap.objs.size X.env)) (compPost (model X.prog X.w) X.A X.xe none (EP X pins σ Q) (.ref D) sb.heap.objs.size) { sb with heap:=pushCells (sb.heap.push { cls:=.type "dict",data:=.dict #[] }) scope.names };have IW:∀ b ∈ fp,Hb b=none:=fun b hb=>(Ez b hb).1.1;generalize ece:compEnvC scope (cellsFrom (sb.heap.objs.size+1) scope.names (cloFrom X.env.cells scope.names [])) sb.heap.objs.size X.env=ce at Ic pg pt pe ⊢;have ED:ce.locals=sb.heap.objs.size:=by subst ece; rfl
 generalize esc:({ sb with heap:=pushCells (sb.heap.push { cls:=.type "dict",data:=.dict #[] }) scope.names }:Shared)=sc at Ic ⊢;have XG:tn 0 sc.heap:=Tn.keep _ _ _ stb fun b _ o e=>by rw [<- esc]; exact pushCells_keeps _ _ _ _ (Heap.get?_push_of_some _ e)
 -- the block's context
 let XB:Cx:=X.blk sb Hb scope ce fp
 have xW:∀ {τ:L2.St} {G:Hp} {t:Shared},Inv XB [] τ G t->(∀ b ∈ fp,G b=none)->∀ b ∈ fp,FpOk XB [] G b:=fun {τ G t} I' hn b hb =>
  ⟨hn b hb,(I'.ok.exf b hb).1,I'.ok.exfs b hb,.inl hb,fun x c e=>(I'.ok.exf b hb).2 x c e,fun p hp=>absurd (show p ∈ ([]:List (Addr × Obj))++[] from hp) (by simp)⟩
 have loop:codeAny (model X.prog X.w) X.A (.compLoop (.SetComp elt [⟨tg,iter,ifs,0⟩] scope pos) 0 (.ref it) (.ref D) ce) (compPost (model X.prog X.w) X.A X.xe none (EP X pins σ Q) (.ref D) sb.heap.objs.size) sc:=by
  refine PpSet.compLoopS_any (fun n t=>∃ i G,Inv XB [] (wipe σ (own.map (·.2))) G t/\tn i t.heap/\(∀ b ∈ fp,G b=none)/\W i n G) ?_ m0 ⟨0,Hb,Ic,XG,IW,w0⟩
  rintro n t ⟨i,G,It,XF,nt,wt⟩
  rcases turn i n G wt with ⟨ends,qq⟩ | ⟨goes,Nx,hNx,step⟩
  ·refine thnF (Tn.done XB rfl rfl rfl hc i [] t _ G (fun _ _=>False) It (xW It nt) XF ends) fun r t6 ⟨er,I6⟩=>?_;subst er;have I7:Inv X pins σ G t6:=Ib.call' (ch:=fp) I6.os I6.base I6.hok I6.bare fun b hb=>⟨(Ez b hb).1.2.2.2.1,(Ez b hb).1.2.1,(Ez b hb).1.2.2.2.2.1,(Ez b hb).1.2.2.2.2.2⟩;have nC:G sb.heap.objs.size=none:=ED ▸ (show G ce.locals=none from I6.free);obtain ⟨m,hn,_⟩:=I6.loc;have hn:t6.heap.Ns sb.heap.objs.size m:=ED ▸ (show t6.heap.Ns ce.locals m from hn);obtain ⟨f0,f1,f2,f3,f4,f5⟩:=Ib.fpOk (Yc _) nC;exact ⟨m,hn,fun ON same=>⟨.ref D,G,I7.turned (t':=t6.toks) (fun b o hb e=>(same.2 b hb).trans e) f0 f1 f3 f4 f5,Ja,qq⟩⟩
  ·refine thnF (Tn.item XB rfl rfl rfl hc i [] t _ G (fun _ _=>False) It (xW It nt) XF goes) fun r t6 ⟨u,er,h6⟩=>?_;subst er;refine thnF h6 fun _ t7 ⟨x,G7,I7,r7,y7,QK,n7⟩=>?_;have P7:=I7.pinned (xW I7 n7) (Tn.obj _ _ QK);refine thnF (pg.run _ t7 _ G7 x u _ P7 r7 (step x G7 y7)) fun _ t8 ⟨τ,G8,I8,hw,q8⟩=>?_;refine thnF (pt.run _ t8 τ G8 _ I8 q8) fun b t9 ⟨G9,I9,q9⟩=>?_;have back:∀ {t':Shared} {G':Hp},Inv XB ([]++pinsAt fp t7.heap) τ G' t'->Nx G'->∃ m,m < n/\∃ i G,Inv XB [] (wipe σ (own.map (·.2))) G t'/\tn i t'.heap/\(∀ b ∈ fp,G b=none)/\W i m G:=fun {t' G'} I' nx=>by
    obtain ⟨m',hm,w'⟩:=hNx G' nx;have keep:∀ b ∈ fp,∀ o,t7.heap.get? b=some o->t'.heap.get? b=some o/\G' b=none:=fun b hb o e =>
     have z:=I'.pin (b,o) (mW _ (mW _ (mem_pinsAt hb e)))
     ⟨z.1,z.2.1⟩
    refine ⟨m',hm,i+1,G',(I'.unpinned (pins:=[])).weak (by rw [<- hw,wipe_length]) (fun j v e=>(wipe_some (hw ▸ e)).1),Tn.keep _ _ _ QK fun b hb o e=>(keep b hb o e).1,fun b hb=>?_,w'⟩;obtain ⟨o,e,_⟩:=Tn.obj _ _ QK b hb;exact (keep b hb o e).2
   cases b with
   | false=>exact back I9 q9
   | true =>
    refine thnF (pe.run _ t9 τ G9 _ I9 q9) fun z rn ⟨yv,G10,I10,Q6,zz,l0,ey,Bq,room,nx⟩=>?_;subst ey;obtain ⟨tk,rfl⟩:=Q6;exact zen (X:=XB) I10 Bq room fun q7 I11=>back I11 nx
 exact PpSet.codeAny_compStart_set loop (Tn.self X.A 0 _ _ _ XG loop)
end
open PySem.Froz (SD sObj TxOk addTx tailTx)
theorem Ww {k x:Str} {l:List Str}:k ∈ hI x l ↔ k=x\/k ∈ l:=by
 unfold hI
 split
 ·rename_i h;exact ⟨.inr,fun z=>z.elim (fun e=>e ▸ h) id⟩
 ·exact List.mem_cons
theorem zcr (x:Str) (l:List Str):(hI x l).length<=l.length+1:=by
 unfold hI
 split
 ·omega
 ·simp
theorem Xj:∀ {l:List Str} {p:Str},risingS p l=true->∀ x ∈ l,¬ x.cps.toList < p.cps.toList
 | [],_,_,x,h=>by cases h
 | y::r,p,h,x,hx=>by
  rw [risingS,Bool.and_eq_true,Bool.not_eq_true',ltCps_eq] at h;have h1:¬ y.cps.toList < p.cps.toList:=of_decide_eq_false h.1;rcases Qv hx with e | e
  ·rw [e]; exact h1
  ·exact List.le_trans h1 (Xj h.2 x e)
theorem z8s {x:Str} {r:List Str} (h:sortedS (x::r)=true):sortedS r=true:=by
 cases r with
 | nil=>rfl
 | cons y s =>
  have h:risingS x (y::s)=true:=h;rw [risingS,Bool.and_eq_true] at h;exact h.2
section
variable {J:It} {n:Nat} {G:Hp->Prop} {Y:Nat->Hp->V->Hp->Prop} {P:Program} {w':World}
theorem bZ.BZ {l:List Str}:(∀ xs,bZ P w' a l ≠ .tup xs)/\∀ u v,bZ P w' a l ≠ .frz u v:=⟨(fun _ z=>nomatch z),(fun _ _ z=>nomatch z)⟩
theorem VA (w:Walk J n G Y) {g:TG} {tt:TT} {te:TE} {vs:List Nat} {σ:L2.St} {H:Hp} {D:Addr} {Qd:Hp->Prop} (hD:H D=none) (hn:n+1 < scanBound) (R:Nat->List Str->Hp->Prop) (h0:R 0 [] H) (hG:∀ H2,SB [] H H2->G H2)
  (st:∀ i us H2 H3,SB [D] H2 H3->R i us H2->R i us H3)
  (turn:∀ (Pv:Hp->Prop) i x H2 H' us,i < n->SB [] H H2->Y i H2 x H'->R i us H2->us.length<=i->(∀ z H5,SB [] H2 H5->R (i+1) (hI z us) H5->∃ (z':Str) (l:List Str),V.str z=.str z'/\H5 D=some (bZ P w' D l)/\l.length+1 < scanBound/\Pv (upd H5 D (bZ P w' D (hI z' l)))) ->
   (∀ H4,SB [] H2 H4->R (i+1) us H4->Pv H4)->g x (wipe σ vs) H' fun σ2 H3=>wipe σ2 vs=wipe σ vs/\tt σ2 H3 fun b H4 =>
    if b=true then te σ2 H4 fun y H5=>∃ (z:Str) (l:List Str),y=.str z/\H5 D=some (bZ P w' D l)/\l.length+1 < scanBound/\Pv (upd H5 D (bZ P w' D (hI z l))) else Pv H4)
  (done:∀ us H2,SB [] H H2->H2 D=some (bZ P w' D us)->R n us H2->us.length<=n->Qd H2) :
  ∃ W:Nat->Nat->Hp->Prop,(∃ m,W 0 m (upd H D (bZ P w' D [])))/\∀ i m Hi,W i m Hi ->
   (J.stop i Hi/\Qd Hi)\/(J.go i Hi/\∃ Nx:Hp->Prop,(∀ H',Nx H'->∃ m',m' < m/\W (i+1) m' H')/\∀ x H',J.yld i Hi x H'->g x (wipe σ vs) H' fun σ2 H2=>wipe σ2 vs=wipe σ vs/\tt σ2 H2 fun b H3 =>
    if b=true then te σ2 H3 fun y H4=>∃ (z:Str) (l:List Str),y=.str z/\H4 D=some (bZ P w' D l)/\l.length+1 < scanBound/\Nx (upd H4 D (bZ P w' D (hI z l))) else Nx H3):=by
 refine DM (body:=fun Nx x H'=>g x (wipe σ vs) H' fun σ2 H2=>wipe σ2 vs=wipe σ vs/\tt σ2 H2 fun b H3 =>
    if b=true then te σ2 H3 fun y H4=>∃ (z:Str) (l:List Str),y=.str z/\H4 D=some (bZ P w' D l)/\l.length+1 < scanBound/\Nx (upd H4 D (bZ P w' D (hI z l))) else Nx H3) w (fun i H2=>SB [D] H H2/\∃ us,H2 D=some (bZ P w' D us)/\R i us H2/\us.length<=i) ⟨SB.new hD _,[],Qt,st _ _ _ _ (SB.new hD _) h0,Yc _⟩ (fun i H2 _ h=>hG H2 (h.1.drop hD)) (fun i x H2 H' hi h y=>?_) (fun H2 h=>?_)
 ·obtain ⟨s2,us,aW,hR,hl⟩:=h;refine turn _ i x H2 H' us hi (s2.drop hD) y hR hl (fun z H5 s5 r5=>?_) (fun H4 s4 r4=>⟨s2.trans s4.nil,us,s4.keep _ _ aW aL,r4,by omega⟩);have eW:=s5.keep _ _ aW aL;have t6:SB [D] H5 (upd H5 D (bZ P w' D (hI z us))):=SB.setG eW (by simp) bZ.BZ.1 bZ.BZ.2 _;refine ⟨z,us,Ja,eW,by omega,(s2.trans s5.nil).trans t6,_,Qt,st _ _ _ _ t6 r5,?_⟩;have:=zcr z us;omega
 ·obtain ⟨s2,us,aW,hR,hl⟩:=h;exact done us H2 (s2.drop hD) aW hR hl
end
def NO (K:Qn) (C N:Addr):Sp:=fun vs H Q E=>∃ (v:V) (b:Bk) (n:Str),vs=[v,.str n]/\fJ K C H v b/\b.length<=1000/\(∀ k ∈ b,k.rs.length<=1000) /\
 Fx N b n H E fun k=>∀ (l:Addr) (us:List V) (H':Hp),SB [] H H'->H l=none->H' l=some (.lst us)->Bears K H' Ru.enc us ((.nil,.nil)::k.rs)->Q (.ref l) H'
section
variable {M:Model} {A:Around} {E:Value->Shared->Prop} {s:Shared} {env:Env}
theorem zfm {func:Expr} {args:List Expr} {kws:List Keyword} {pos:Pos} {Q:Value->Shared->Prop}
  (h:wpAny M A (eval func env) (fun f s₁=>wpAny M A (callWith pos f [] (backTo pos (starEach args env)) (backToKw pos (keywordEach kws env))) Q E s₁) E s)
  (he:eval (.Call func args kws pos) env=(do callWith pos (<- eval func env) [] (backTo pos (starEach args env)) (backToKw pos (keywordEach kws env))):=by rfl) :
  wpAny M A (eval (.Call func args kws pos) env) Q E s:=by
 rw [he]; exact Ke h
theorem z7p {pos:Pos} {T:String} {rest:List Expr} {kws:List Keyword} {Q:Value->Shared->Prop}
  (h:wpAny M A (spliced (backTo pos (starEach (e::rest) env))) (fun vs s₁=>wpAny M A (evalAll ((backToKw pos (keywordEach kws env)).map (·.2)))
   (fun aQ s₂=>wpAny M A (call (.type T) vs (((backToKw pos (keywordEach kws env)).filterMap (·.1)).zip aQ)) Q E s₂) E s₁) E s)
  (he:starEach (e::rest) env=(false,eval e env)::starEach rest env)
  (DY:(backTo pos (starEach rest env)).any (·.1)=false)
  (qp:(backToKw pos (keywordEach kws env)).all (·.1.isSome)=true)
  (xH:(backToKw pos (keywordEach kws env)).any (·.1.isNone)=false) :
  wpAny M A (callWith pos (.type T) [] (backTo pos (starEach (e::rest) env)) (backToKw pos (keywordEach kws env))) Q E s:=by
 rw [he] at h ⊢;have h2:(backTo pos ((false,eval e env)::starEach rest env)).any (·.1)=false:=by
  show (false || (backTo pos (starEach rest env)).any (·.1))=false;rw [DY]; rfl
 have h3:backTo pos ((false,eval e env)::starEach rest env)=(false,eval e env)::backTo pos (starEach rest env):=rfl;rw [h3] at h h2 ⊢;unfold callWith;refine Ke (wpAny_holding (wpAny_mono (evalArgs_kwB (Q:=fun a s₁=>wpAny M A (call (.type T) ([]++a.pos) a.kw) Q E s₁) qp h) (fun a s₁ h₁=>Ke (wpAny_standAt ?_)) fun _ _ x=>x));simp only [h2,xH,Bool.or_false];refine Ke (wpAny_pure ?_);exact Ke (wpAny_mono h₁ (fun r s₂ hr=>Ke (wpAny_holding (wpAny_point (wpAny_pure hr)))) fun _ _ x=>x)
end
def ET (K:Qn) (a:Addr):It :=
 ⟨fun i H=>∃ (xs:List V) (x:V),SqL K H a xs/\xs[i]?=some x,
  fun i H v H2=>∃ T x,v=.ref T/\H T=none/\H2=upd H T (.tup [.int ((i+1:Nat):Int),x])/\∀ xs,SqL K H a xs->xs[i]?=some x,
  fun i H=>∃ xs:List V,SqL K H a xs/\xs.length=i⟩
theorem zbg {w:World} (a e it:Addr) (Ec:e ≠ it) (J2:a ≠ it) (Sk:e ≠ a) :
  Turn P w K (.Tuple elts kk wu) (ET K a) [e,it] e (fun i h=>(∃ old,IsEnum h e it ((i+1:Nat):Int) old)/\h.IsListIter it a i) where
 mem:=by simp
 obj:=fun i h st b hb=>by
  obtain ⟨⟨old,he⟩,o,ho,hc,hd⟩:=st;rcases (show b=e\/b=it by simpa using hb) with z | z
  ·rw [z]; exact ⟨_,he,fun v q=>nomatch q⟩
  ·rw [z]; exact ⟨o,ho,fun v q=>by rw [hd] at q; cases q⟩
 keep:=fun i h h2 st k=>let ⟨⟨old,he⟩,hi⟩:=st; ⟨⟨old,k e (by simp) _ he⟩,hi.at fun o q=>k it (by simp) o q⟩
 item:=by
  intro X hP hw hK hc i pins s σ H E I hf st hg;subst hP hw hK;obtain ⟨⟨old,he⟩,hit⟩:=st;obtain ⟨xs,x,hq,hx⟩:=hg;obtain ⟨cn,rv,p,hz⟩:=I.list hq;obtain ⟨u,hu,ru⟩:=rv.get hx;have Ca:e < s.heap.objs.size:=Heap.lt_size he;have Sb:it < s.heap.objs.size:=by obtain ⟨_,z,_⟩:=hit; exact Heap.lt_size z
  have Dr:=Draws.list (prog:=X.prog) (w:=X.w) (A:=X.A.in1) (I.ok.hd hc) it a J2 cn.toArray;have d4:i < cn.toArray.size:=by
   have:=(Kq hu).1;simpa using this
  refine wpAny_pyNext_enum_itemC Dr he ⟨hit,p.isList⟩ d4 Ec (by simp [Ec,Sk]) fun y h2 tk hy ho i9 hT oz hk=>?_;have Rv:y=u:=by
   have h3:cn[i]?=some y:=by simpa using hy
   rw [hu] at h3; exact (Yd h3).symm
  subst Rv;refine ⟨_,rfl,wpAny_letOwnedTupleGo_enum (s:={ s with heap:=h2,toks:=tk+1 }) ho fun h3 Ed sb=>?_⟩;have tf:h3.get? s.heap.objs.size=some { cls:=.type "tuple",data:=.seq #[.int ((i+1:Nat):Int) tk,y] }:=(sb.2 _ (Nat.ne_of_gt Ca)).trans hT;have nw:ObjOk X.prog X.w (upd H s.heap.objs.size (.tup [.int ((i+1:Nat):Int),x])) h3 s.heap.objs.size (.tup [.int ((i+1:Nat):Int),x]):=⟨Z2,[.int ((i+1:Nat):Int) tk,y],.cons ⟨_,rfl⟩ (.cons ru .nil),⟨_,tf,rfl,_,rfl⟩⟩;have I1:Inv X pins σ (upd H s.heap.objs.size (.tup [.int ((i+1:Nat):Int),x])) { s with heap:=h3,toks:=tk+1 }:=I.turnedNew (ch:=[e,it]) (fun b ob hb z=>(sb.2 b (fun y=>hb (by simp [y]))).trans (hk b ob (fun y=>hb (by simp [y])) (fun y=>hb (by simp [y])) z)) hf (Yc _) nw;refine ⟨.ref s.heap.objs.size,_,I1,Ja,⟨_,x,Ja,I.hok.fresh (Yc _),Ja,fun ys hy=>by rw [I.list_inj hy hq]; exact hx⟩,⟨⟨y,?_⟩,i9.1.at fun o q=>(sb.2 it (Ne.symm Ec)).trans q⟩,fun b hb=>?_⟩
  ·rw [show ((i+1+1:Nat):Int)=((i+1:Nat):Int)+1 by omega]; exact Ed
  ·have bY:b < s.heap.objs.size:=by
    rcases (show b=e\/b=it by simpa using hb) with z | z
    ·rw [z]; exact Ca
    ·rw [z]; exact Sb
   rw [upd_ne (Nat.ne_of_lt bY)]; exact (hf b hb).1
 done:=by
  intro X hP hw hK hc i pins s σ H E I hf st hg;subst hP hw hK;obtain ⟨⟨old,he⟩,hit⟩:=st;obtain ⟨xs,hq,hx⟩:=hg;obtain ⟨cn,rv,p,hz⟩:=I.list hq;obtain ⟨f0,f1,f2,f3,f4,f5⟩:=hf it (by simp);have hl:=rv.length;have Dr:=Draws.list (prog:=X.prog) (w:=X.w) (A:=X.A.in1) (I.ok.hd hc) it a J2 cn.toArray;have hn:cn.toArray.size=i:=by simp; omega
  refine wpAny_pyNext_enum_endD Dr he ⟨by rw [hn]; exact hit,p.isList⟩ fun h2 eb=>⟨rfl,I.turned (t':=s.toks) (fun b o hb z=>eb b o hb z) f0 f1 f3 f4 f5⟩
 self:=fun A i s Q E st h=>let ⟨⟨_,he⟩,_⟩:=st; wpAny_pyIter_enum he h
def zfy (K:Qn) (te:TE):TI:=fun σ H R=>te σ H fun v H1=>∃ a xs,v=.ref a/\SqL K H1 a xs/\R (ET K a) H1
theorem zdi {X:Cx} {ex:Expr} {te:TE} {p pos kp cp:Pos} {ck:Nat} (hg:Gl X "enumerate") (hm:X.mg "enumerate"=none) (he:PE X ex te) (hs:starEach [ex] X.env=(false,eval ex X.env)::starEach [] X.env:=by rfl) :
  PI X (.Tuple elts kk wu) (.Call (.Name "enumerate" p) [ex] [⟨some "start",.Constant (.int 1) ck cp,kp⟩] pos) (zfy X.K te):=by
 refine ⟨fun pins s σ H R I h=>?_⟩;refine zfm (ld_blt I hg hm boot_enumerate (z7p (args_cons (thn (he.run pins s σ H _ I h) fun u s1 ⟨v,H1,I1,r1,q1⟩=>args_nil ?_) hs) hs rfl rfl rfl));obtain ⟨a,xs,ev,hq,q⟩:=q1;subst ev;cases r1;refine kws_cons (thn ((pe_int (X:=X) (i:=1) (j:=ck) (pos:=cp)).run pins s1 σ H1 (fun v H2=>v=.int 1/\H2=H1) I1 ⟨rfl,Ja⟩) fun u s2 ⟨v,H2,I2,r2,q2⟩=>kws_nil ?_);obtain ⟨rfl,rfl⟩:=q2;obtain ⟨t,rfl⟩:∃ t,u=.int 1 t:=r2;obtain ⟨cn,rv,pt,hz⟩:=I2.list hq;have ht:s2.heap.IsList a cn.toArray:=pt.isList;have nV:a < s2.heap.objs.size:=by obtain ⟨_,z,_⟩:=ht; exact Heap.lt_size z
 show wpAny _ _ (call (.type "enumerate") [.ref a] [(Str.ofString "start",.int 1 t)]) _ _ _;refine enum_begins_start (begins_list a cn.toArray) ht (by decide) (by decide) fun h2 vN hit oz hk=>wpAny_pyIter_enum vN ?_;have I3:Inv X pins σ H2 { s2 with heap:=h2 }:=I2.kept (t':=s2.toks) hk;refine ⟨s2.heap.objs.size+1,[s2.heap.objs.size+1,s2.heap.objs.size],_,_,H2,Ja,I3,zbg a (s2.heap.objs.size+1) s2.heap.objs.size (Nat.succ_ne_self _) (Nat.ne_of_lt nV) (Nat.ne_of_gt (Nat.lt_succ_of_lt nV)),⟨⟨.none,vN⟩,⟨_,hit,Ja,Ja⟩⟩,fun b hb=>?_,q⟩;have hle:s2.heap.objs.size<=b:=by
  rcases (show b=s2.heap.objs.size+1\/b=s2.heap.objs.size by simpa using hb) with z | z
  ·rw [z]; exact Nat.le_add_right _ _
  ·rw [z]; exact Yc _
 exact I2.fpOk hle (I2.hok.fresh hle)
theorem zav:Walk (ET K a) xs.length (fun H=>SqL K H a xs) (YPair (fun i=>some (.int ((i+1:Nat):Int))) (fun i=>xs[i]?)):=by
 refine ⟨fun i _ hi q=>⟨xs,xs[i],q,by simp [hi]⟩,fun _ q=>⟨xs,q,Ja⟩,fun i H v H2 _ q y=>?_⟩;obtain ⟨T,x,h1,h2,h3,h4⟩:=y;exact ⟨T,.int ((i+1:Nat):Int),x,h1,h2,h3,Ja,h4 xs q⟩
namespace Gr
def ak:Gr->Nat->List (Pl × Str)
 | .nil,_=>[]
 | .cons k g _ r,i=>(([i],k)::(g.ak 0).map fun x=>(i::x.1,x.2))++r.ak (i+1)
def CK (p:Tr × Int) (i:Nat):List (Pl × Str):=([i],p.1.1)::(p.1.2.ak 0).map fun x=>(i::x.1,x.2)
def aks:List (Tr × Int)->Nat->List (Pl × Str)
 | [],_=>[]
 | p::r,i=>CK p i++aks r (i+1)
theorem zq:∀ (g:Gr) (i:Nat),g.ak i=aks g.ps i
 | .nil,_=>rfl
 | .cons k g m r,i=>by show _++r.ak (i+1)=_++aks r.ps (i+1); rw [zq r]; rfl
theorem jx:∀ (as bs:List (Tr × Int)) (i:Nat),aks (as++bs) i=aks as i++aks bs (i+as.length)
 | [],bs,i=>by simp [aks]
 | p::r,bs,i=>by
  show CK p i++aks (r++bs) (i+1)=_;rw [jx r bs (i+1)];show _=(CK p i++aks r (i+1))++aks bs (i+(r.length+1));rw [List.append_assoc,show i+1+r.length=i+(r.length+1) by omega]
theorem sM {bs:List (Tr × Int)} {p:Tr × Int} (h:bs[i]?=some p):aks (bs.take (i+1)) 0=aks (bs.take i) 0++CK p i:=by
 have hl:i < bs.length:=(Kq h).1;rw [Yg,h,jx,Kx,Nat.min_eq_left (by omega),Nat.zero_add];show _++(CK p i++[])=_;rw [List.append_nil]
theorem j2:∀ (g:Gr) (i:Nat),(g.ak i).map (·.2)=g.within.map (·.1.1)
 | .nil,_=>rfl
 | .cons k g m r,i=>by
  have h1:=j2 g 0;have h2:=j2 r (i+1);show ((([i],k)::(g.ak 0).map fun x=>(i::x.1,x.2))++r.ak (i+1)).map (·.2)=(((k,g),m)::(g.within++r.within)).map (·.1.1);rw [Yj,Ky,List.map_map,h2,Ky,Yj,<- h1]
  rfl
theorem mP (g:Gr) (i:Nat):(g.ak i).length=g.parts:=by
 have:=congrArg List.length (j2 g i);rw [Ye,Ye,bG] at this;exact this
theorem qB:∀ (g:Gr) (i:Nat),∀ x ∈ g.ak i,x.1.length<=g.deep
 | .nil,_,x,h=>by cases h
 | .cons k g m r,i,x,h=>by
  have h1:=qB g 0;have h2:=qB r (i+1);show x.1.length<=max (1+g.deep) r.deep;rcases Qw h with h | h
  ·rcases Qv h with h | h
   ·rw [h]; show 1<=_; omega
   ·obtain ⟨q,hq,rfl⟩:=Qx h;have:=h1 q hq;show q.1.length+1<=_; omega
  ·have:=h2 x h; omega
theorem AN {a b:Str} {g:Gr} {os:List (Option Int)} (h:os ≠ []):lk (a,g) os=lk (b,g) os:=by
 cases os with
 | nil=>exact absurd rfl h
 | cons o r=>rfl
theorem zu {G:Gr}:∀ (g:Gr) (i:Nat),G.ps.drop i=g.ps->∀ x ∈ g.ak i,mc x.1 ≠ []/\∃ t:Tr,lk ("",G) (mc x.1)=some t/\t.1=x.2
 | .nil,_,_,x,h=>by cases h
 | .cons k g m r,i,hd,x,h=>by
  have Ac:G.ps.drop i=((k,g),m)::r.ps:=hd;have hi:G.ps[i]?=some ((k,g),m):=by
   have:=congrArg (·[0]?) Ac;simpa using this
  have hs:stp G (some ((i:Nat):Int))=some (k,g):=by
   show (if (0:Int)<=((i:Nat):Int) then (G.ps[((i:Nat):Int).toNat]?).map (·.1) else none)=_;rw [if_pos (by omega),Int.toNat_natCast,hi]; rfl
  rcases Qw h with h | h
  ·rcases Qv h with h | h
   ·rw [h];refine ⟨by simp [mc],(k,g),?_,Ja⟩;show (stp G (some ((i:Nat):Int))).bind _=_;rw [hs]; rfl
   ·obtain ⟨q,hq,rfl⟩:=Qx h;obtain ⟨n1,t,e1,e2⟩:=zu (G:=g) g 0 rfl q hq;refine ⟨by simp [mc],t,?_,e2⟩;show (stp G (some ((i:Nat):Int))).bind (fun u=>lk u (mc q.1))=_;rw [hs];show lk (k,g) (mc q.1)=some t;rw [AN (b:="") n1,e1]
  ·refine zu r (i+1) ?_ x h;rw [<- List.drop_drop,Ac]; rfl
theorem zt (g:Gr):∀ x ∈ g.ak 0,mc x.1 ≠ []/\∃ t:Tr,lk ("",g) (mc x.1)=some t/\t.1=x.2:=zu g 0 rfl
theorem eO:∀ g:Gr,g.deep<=g.parts
 | .nil=>Yc _
 | .cons k g m r=>by
  have h1:=eO g;have h2:=eO r;show max (1+g.deep) r.deep<=1+g.parts+r.parts;omega
end Gr
def Fw (K:Qn) (n:Nat):Sp:=fun vs H Q _=>∃ (v:V) (g:Gr),vs=[v]/\GA K H v g/\g.deep < n/\g.deep<=100/\g.parts<=1000/\∀ (D:Addr) (us:List V) (H':Hp),SB [] H H'->H D=none->H' D=some (.lst us)->Bears K H' wc us ((g.ak 0).map (·.1))->Q (.ref D) H'
structure Sx where
 n:Str
 i:Nat
 wd:Str
 p:Pl
 k:Str
def Sx.st (s:Sx):PyData:=.tuple [.str s.n,.int (s.i:Int),.str s.wd,wc s.p]
def Sx.enc (s:Sx):PyData:=.tuple [s.st,.str s.k]
theorem Sx.wM (s:Sx):gH s.st=true:=by simp [Sx.st,gH,ki,wg]
theorem Sx.ag (s:Sx):gH s.enc=true:=by simp [Sx.enc,gH,ki,Sx.wM]
def Av (n:Str) (i:Nat) (wd:Str) (g:Gr):List Sx:=(g.ak 0).map fun x=>⟨n,i,wd,x.1,x.2⟩
def vm (n:Str) (x:Ru × Nat):List Sx:=Av n x.2 "once" x.1.1++Av n x.2 "each" x.1.2
def Kd.steps (k:Kd):List Sx:=(k.rs.zipIdx 1).flatMap (vm k.n)
def nv (rs:List Ru):List Str:=rs.flatMap fun r=>r.within.map (·.1.1)
theorem W2 (n:Str) (i:Nat) (wd:Str) (g:Gr):(Av n i wd g).map (·.k)=g.within.map (·.1.1):=by
 unfold Av;rw [List.map_map,<- Gr.j2 g 0]; rfl
theorem FA (n:Str) (i:Nat) (wd:Str) (g:Gr):(Av n i wd g).length=g.parts:=by
 unfold Av;rw [Ye,Gr.mP]
theorem zbm (n:Str) (x:Ru × Nat):(vm n x).map (·.k)=x.1.within.map (·.1.1):=by
 unfold vm Ru.within;rw [Yj,Yj,W2,W2]
theorem zff (n:Str) (x:Ru × Nat):(vm n x).length=x.1.1.parts+x.1.2.parts:=by
 unfold vm;rw [Yf,FA,FA]
theorem Xm (n:Str):∀ (rs:List Ru) (i:Nat),((rs.zipIdx i).flatMap (vm n)).map (·.k)=nv rs
 | [],_=>rfl
 | r::rs,i=>by
  rw [List.zipIdx_cons,List.flatMap_cons,Yj,Xm n rs (i+1),zbm]
  rfl
theorem Kd.rC (k:Kd):k.steps.map (·.k)=nv k.rs:=Xm _ _ _
theorem VB (n:Str):∀ (xs:List (Ru × Nat)),(∀ x ∈ xs,x.1.1.parts+x.1.2.parts<=4)->(xs.flatMap (vm n)).length<=4*xs.length
 | [],_=>Yc _
 | x::xs,h=>by
  have h1:=VB n xs fun y hy=>h y (bX _ hy);have h2:=h x bF;rw [List.flatMap_cons,Yf,zff,Yk];omega
theorem Kd.oi {k:Kd} (h4:k.rs.length<=4) (h:∀ r ∈ k.rs,dC r):k.steps.length<=16:=by
 have:=VB k.n (k.rs.zipIdx 1) fun x hx=>(h x.1 (by
  have:=List.mem_zipIdx hx;rw [this.2.2]; exact List.getElem_mem _)).2.2
 rw [List.length_zipIdx] at this;show ((k.rs.zipIdx 1).flatMap (vm k.n)).length<=16;omega
def W7 (K:Qn):Sp:=fun vs H Q _=>∃ (n wd:Str) (i:Nat) (v:V) (g:Gr),vs=[.str n,.int (i:Int),.str wd,v]/\GA K H v g/\g.deep < 20/\g.parts<=60/\∀ (l:Addr) (us:List V) (H':Hp),SB [] H H'->H l=none->H' l=some (.lst us)->Bears K H' Sx.enc us (Av n i wd g)->Q (.ref l) H'
def WU (K:Qn) (C N:Addr):Sp:=fun vs H Q E=>∃ (v:V) (b:Bk) (n:Str),vs=[v,.str n]/\fJ K C H v b/\b.Ok /\
 Fx N b n H E fun k=>∀ (l:Addr) (us:List V) (H':Hp),SB [] H H'->H l=none->H' l=some (.lst us)->Bears K H' Sx.enc us k.steps->Q (.ref l) H'
structure SrtOf (ss ks:List Str):Prop where
 srt:sortedS ss=true
 nd:ss.Nodup
 mem:∀ x,x ∈ ss ↔ x ∈ ks
theorem Xk {x:Str} {l:List Str} (h:l.Nodup):(hI x l).Nodup:=by
 unfold hI
 split
 ·exact h
 ·rename_i hx;exact List.nodup_cons.mpr ⟨hx,h⟩
theorem SrtOf.perm {ss l ks:List Str} (pm:ss.Perm l) (s:sortedS ss=true) (nd:l.Nodup) (h:∀ x,x ∈ l ↔ x ∈ ks):SrtOf ss ks :=
 ⟨s,pm.nodup_iff.mpr nd,fun x=>pm.mem_iff.trans (h x)⟩
def Pe (K:Qn) (C N:Addr):Sp:=fun vs H Q E=>∃ (v:V) (b:Bk) (n:Str),vs=[v,.str n]/\fJ K C H v b/\b.Ok /\
 Fx N b n H E fun k=>∀ (l:Addr) (ss:List Str) (H':Hp),SB [] H H'->H l=none->H' l=some (.lst (ss.map V.str))->SrtOf ss (nv k.rs)->Q (.ref l) H'
theorem Bk.Ok.led (ok:b.Ok) {k:Kd} (hk:k ∈ b):∀ x ∈ nv k.rs,x ∈ b.names:=fun x hx=>by
 obtain ⟨r,hr,hx⟩:=List.mem_flatMap.mp hx;obtain ⟨p,hp,rfl⟩:=Qx hx;exact ((ok.kd k hk).2.2 r hr).2 p hp
theorem Bk.Ok.names {b:Bk} (ok:b.Ok):∀ x ∈ b.names,fm x:=fun x hx=>by
 obtain ⟨k,hk,rfl⟩:=Qx hx;exact (ok.kd k hk).1
def Nt (K:Qn) (x:Addr):Bool:=match K.lookup x with
 | some o=>(match o.cls,o.data with
  | .type t,.seq cn _=>decide (t="tuple")&&decide (cn.toList.length=0)
  | _,_=>false)
 | none=>false
def no2B (K:Qn) (a:Addr):Bool:=match K.lookup a with
 | some o=>(match o.cls,o.data with
  | .type t,.seq cn _=>decide (t="tuple")&&(match cn.toList with
   | [.ref x,.ref y]=>Nt K x&&Nt K y
   | _=>false)
  | _,_=>false)
 | none=>false
theorem Xc {x:Addr} (h:Nt K x=true) (H:Hp):SqT K H x []:=by
 unfold Nt at h
 split at h
 ·rename_i o ho
  split at h
  ·rename_i t cn n hc hd;rw [Bool.and_eq_true,decide_eq_true_eq,decide_eq_true_eq] at h;have hz:cn.size=0:=by simpa using h.2
   have he:cn.toList=[]:=List.length_eq_zero_iff.mp h.2;refine .inr ⟨o,cn,n,ho,by rw [hc,h.1],hd,by rw [hz]; exact Nat.zero_le _,by rw [he]; exact .nil⟩
  ·cases h
 ·cases h
theorem zew (h:no2B K a=true) (H:Hp):Dp K H (.ref a) (Ru.enc (.nil,.nil)):=by
 unfold no2B at h
 split at h
 ·rename_i o ho
  split at h
  ·rename_i t cn n hc hd;rw [Bool.and_eq_true,decide_eq_true_eq] at h;obtain ⟨h1,h2⟩:=h
   split at h2
   ·rename_i x y he;rw [Bool.and_eq_true] at h2;have hz:cn.size=2:=by have:=congrArg List.length he; simpa using this
    have hs:SqT K H a [.ref x,.ref y]:=.inr ⟨o,cn,n,ho,by rw [hc,h1],hd,by rw [hz]; decide,by rw [he]; exact .cons rfl (.cons rfl .nil)⟩;exact .tup hs (.cons (.tup (Xc h2.1 H) .nil) (.cons (.tup (Xc h2.2 H) .nil) .nil))
   ·cases h2
  ·cases h
 ·cases h
section
variable {X:Cx}
theorem zd7 {y:PySem.Str} {py:Pos} {kx vx tg iter:Expr} {ifs:List Expr} {scope:Scope} {own:List (PySem.Str × Nat)} {pos IE:Pos} {wi:TI} {g:TG} {tt:TT} {tk tv:TE} (hc:X.calm=true) (hN:X.N.Nodup) (hy:X.N[i]?=some y) (Yv:X.env.scope.names.lookup y=some .local)
  (hsw:swapsWith (.DictComp kx vx [⟨tg,iter,ifs,0⟩] scope pos) (some (.Name y py)) IE.line X.env=pure true) (hi:PI X tg iter wi) (ok:BlkOk X.N X.env.scope scope own)
  (hg:∀ (s:Shared) (H:Hp) (C:Addr) (cl:List (PySem.Str × Addr)) (fp:List Addr),L2.PG (X.blk s H scope (compEnvC scope cl C X.env) fp) tg g) (ht:∀ (s:Shared) (H:Hp) (C:Addr) (cl:List (PySem.Str × Addr)) (fp:List Addr),L2.PTs (X.blk s H scope (compEnvC scope cl C X.env) fp) ifs tt)
  (hk:∀ (s:Shared) (H:Hp) (C:Addr) (cl:List (PySem.Str × Addr)) (fp:List Addr),L2.PE (X.blk s H scope (compEnvC scope cl C X.env) fp) kx tk)
  (he:∀ (s:Shared) (H:Hp) (C:Addr) (cl:List (PySem.Str × Addr)) (fp:List Addr),L2.PE (X.blk s H scope (compEnvC scope cl C X.env) fp) vx tv) (hs:∀ x,foldedSetIterable iter X.env x=pure x:=by intro _; rfl) :
  PS X (.Assign [.Name y py] (.DictComp kx vx [⟨tg,iter,ifs,0⟩] scope pos) IE) (tAsg (tDc wi g tt tk tv (own.map (·.2))) (gName i)):=by
 refine ⟨fun pins s σ H D I h=>?_⟩;rw [exec_Assign_Name_used _ _ _ _ hsw];refine Ke (wpAny_standAt (Ke ?_));show wpAny _ X.A (do let _ <- comprehension (.DictComp kx vx [⟨tg,iter,ifs,0⟩] scope pos) scope X.env (firstIterPos [⟨tg,iter,ifs,0⟩] pos) newDict false (eval iter X.env) (some (assign (.Name y py) X.env))) _ _ s;have h:tDc wi g tt tk tv (own.map (·.2)) σ H (fun x H1=>gName i x σ H1 D.nx):=h;refine Ke (thn (dc_core (Qf:=fun _ s'=>SP X pins D .next s') hc hN I hi ok hg ht hk he hs h fun L C s' m H' I' q hn f=>?_) fun _ s' hq=>wpAny_pure (wpAny_pure hq));show wpAny _ _ (assign (.Name y py) X.env (.ref L)) _ _ _;refine wpAny_assign_Name (store_ok2 (v:=V.ref L) I' hN hy (.inl Yv) rfl (fun s2 I2 ⟨a,sb,ha⟩=>?_) (.inr Yv));obtain ⟨f0,f1,f2,f3,f4,f5⟩:=f;have haC:C ≠ a:=by
  rcases ha with z | z
  ·rw [z]; exact f1
  ·exact fun e=>f4 y a z e.symm
 refine ⟨m,hn.sameBut sb haC,fun h3 sb3=>?_⟩;exact ⟨_,H',I2.turned (t':=s2.toks) (fun b o hb e=>(sb3.2 b hb).trans e) f0 f1 f3 f4 f5,q⟩
theorem zcq {kx vx:Expr} {gs:List Comprehension} {scope:Scope} {pos py:Pos} {y:PySem.Str} {l:Nat} {env:Env} (hk:env.scope.kind=.function) (hy:env.scope.names.lookup y=some .local) (hl:(py.line == pos.line)=true)
  (ha:(scope.names.any fun (n,k)=>n == y&&(k == .local || k == .cell))=false):swapsWith (.DictComp kx vx gs scope pos) (some (.Name y py)) l env=pure true:=by
 have ky:env.kindOf y=some .local:=hy;have hb:env.blockKind=.function:=by unfold Env.blockKind; rw [hk]; rfl
 unfold swapsWith;simp only [hb,ky,ha,Expr.pos,hl]
 rfl
end
def adj (b:Bk) (n:Str):List Str:=match b.get n with
 | some k=>nv k.rs
 | none=>[]
inductive EndK (b:Bk):Str->Prop
 | mk {n:Str}:(∀ k,k ∈ adj b n->EndK b k)->EndK b n
inductive Rch (b:Bk):Str->Str->Prop
 | one {n k:Str}:k ∈ adj b n->Rch b n k
 | step {n m k:Str}:Rch b n m->k ∈ adj b m->Rch b n k
section
variable {b:Bk}
theorem VZ {n:Str} {k:Kd} (h:b.get n=some k):adj b n=nv k.rs:=by unfold adj; rw [h]
theorem Df (ok:b.Ok) {n k:Str} (h:k ∈ adj b n):k ∈ b.names:=by
 unfold adj at h
 split at h
 ·rename_i kd e;exact ok.led (Bk.get_some e).1 k h
 ·cases h
theorem De {k:Kd} (ok:b.Ok) (hk:k ∈ b):adj b k.n=nv k.rs:=VZ (Bk.fD ok.nd hk)
theorem Rch.trans {n m k:Str} (h:Rch b n m) (g:Rch b m k):Rch b n k:=by
 induction g with
 | one e=>exact .step h e
 | step _ e ih=>exact .step ih e
theorem Rch.cons {n m k:Str} (h:m ∈ adj b n) (g:Rch b m k):Rch b n k:=(Rch.one h).trans g
theorem Rch.split {n k:Str} (h:Rch b n k):∃ m,m ∈ adj b n/\(m=k\/Rch b m k):=by
 induction h with
 | one e=>exact ⟨_,e,.inl rfl⟩
 | step _ e ih =>
  obtain ⟨m,hm,h⟩:=ih;refine ⟨m,hm,.inr ?_⟩;rcases h with h | h
  ·rw [h]; exact .one e
  ·exact .step h e
theorem EndK.next {n k:Str} (h:EndK b n) (e:k ∈ adj b n):EndK b k:=by
 cases h with
 | mk h=>exact h k e
theorem EndK.yg {n:Str} (h:EndK b n):¬ Rch b n n:=by
 induction h with
 | mk h ih =>
  intro g;obtain ⟨m,hm,e⟩:=g.split;refine ih m hm ?_;rcases e with e | e
  ·rw [e]; exact g
  ·exact .step e hm
end
inductive LedAll (K:Qn) (H:Hp):List (Key × V)->Bk->Prop
 | nil:LedAll K H [] []
 | cons {l:Addr} {ss:List Str} {k:Kd} {aQ:List (Key × V)} {b:Bk}:H l=some (.lst (ss.map V.str))->SrtOf ss (nv k.rs)->LedAll K H aQ b->LedAll K H ((Sum.inr k.n,.ref l)::aQ) (k::b)
section
variable {K:Qn} {H H':Hp}
theorem LedAll.length:∀ {aQ:List (Key × V)} {b:Bk},LedAll K H aQ b->aQ.length=b.length
 | _,_,.nil=>rfl
 | _,_,.cons _ _ t=>congrArg (·+1) t.length
theorem LedAll.keep (h:∀ l xs,H l=some (.lst xs)->H' l=some (.lst xs)):∀ {aQ:List (Key × V)} {b:Bk},LedAll K H aQ b->LedAll K H' aQ b
 | _,_,.nil=>.nil
 | _,_,.cons a s t=>.cons (h _ _ a) s (LedAll.keep h t)
theorem LedAll.append:∀ {aQ kws:List (Key × V)} {b c:Bk},LedAll K H aQ b->LedAll K H kws c->LedAll K H (aQ++kws) (b++c)
 | _,_,_,_,.nil,h=>h
 | _,_,_,_,.cons a s t,h=>.cons a s (t.append h)
theorem LedAll.val {n:Str} {k:Kd}:∀ {aQ:List (Key × V)} {b:Bk},LedAll K H aQ b->b.get n=some k->∃ l ss,valV aQ (Sum.inr n)=some (.ref l)/\H l=some (.lst (ss.map V.str))/\SrtOf ss (nv k.rs)
 | _,_,.nil,e=>by simp [Bk.get] at e
 | _,_,.cons (l:=l) (ss:=ss) (k:=kk) (b:=bb) a s t,e=>by
  by_cases h:kk.n=n
  ·have e':kk=k:=by
    have:Bk.get (kk::bb) n=some kk:=by simp [Bk.get,h]
    rw [this] at e; exact Yd e
   subst e';exact ⟨l,ss,valV_pos (by rw [h]),a,s⟩
  ·have e':Bk.get bb n=some k:=by
    unfold Bk.get at e;rw [List.find?_cons_of_neg (by simpa using h)] at e;exact e
   obtain ⟨l',Aw,h1,h2,h3⟩:=t.val e';exact ⟨l',Aw,by rw [valV_neg (fun z=>h (Sum.inr.inj z))]; exact h1,h2,h3⟩
theorem LedAll.get:∀ {aQ:List (Key × V)} {b:Bk} {i:Nat} {p:Key × V},LedAll K H aQ b->aQ[i]?=some p->∃ k,b[i]?=some k/\p.1=Sum.inr k.n
 | _,_,_,_,.nil,e=>by simp at e
 | _,_,0,_,.cons a s t,e=>by
  obtain rfl:=Yd e;exact ⟨_,Ja,Ja⟩
 | _,_,i+1,_,.cons a s t,e=>t.get (i:=i) e
end
def into (b:Bk) (es:List Str) (n:Str):Bool:=decide (n ∉ es)&&(adj b n).all fun k=>decide (k ∈ es)
def Xg (K:Qn):Sp:=fun vs H Q _=>∃ (d e:Addr) (b:Bk) (es:List Str) (aQ:List (Key × V)),vs=[.ref d,.ref e]/\H d=some (.dK aQ)/\LedAll K H aQ b/\H e=some (.lst (es.map V.str))/\b.Ok/\∀ (l:Addr) (H':Hp),SB [] H H'->H l=none->H' l=some (.lst ((b.names.filter (into b es)).map V.str))->Q (.ref l) H'
def WY (K:Qn) (C N:Addr):Sp:=fun vs H Q E=>∃ (v:V) (b:Bk),vs=[v]/\fJ K C H v b/\b.Ok/\∀ (l:Addr) (ss:List Str) (H':Hp),SB [] H H'->H l=none->H' l=some (.lst (ss.map V.str))->sortedS ss=true->ss.Nodup->(∀ n,n ∈ ss ↔ n ∈ b.names/\¬ EndK b n)->Q (.ref l) H'
theorem SB.unlock {H':Hp} {d:Addr} {od:Obj} {u:HO} (s:SB [] (upd H d (.frz od u)) H') (hd:H d=some u) (n1:∀ xs,u ≠ .tup xs) (n2:∀ o v,u ≠ .frz o v):SB [] H (upd H' d u):=by
 refine ⟨fun b o e _=>?_,fun b xs e=>?_,fun b o v e=>?_,fun b e=>?_⟩
 ·by_cases z:b=d
  ·rw [z,Qt]; rw [z,hd] at e; exact e
  ·rw [upd_ne z]; exact s.keep b o (by rw [upd_ne z]; exact e) aL
 ·have z:b ≠ d:=fun z=>by rw [z,hd] at e; exact n1 _ (Yd e)
  rw [upd_ne z]; exact s.tups b xs (by rw [upd_ne z]; exact e)
 ·have z:b ≠ d:=fun z=>by rw [z,hd] at e; exact n2 _ _ (Yd e)
  rw [upd_ne z]; exact s.frzs b o v (by rw [upd_ne z]; exact e)
 ·have z:b ≠ d:=fun z=>by rw [z,Qt] at e; cases e
  rw [upd_ne z] at e;have:=s.kh b e
  rwa [upd_ne z] at this
theorem zf4 {ss ks:List Str} (so:SrtOf ss ks) (p:Str->Bool):ss.all p=ks.all p:=by
 rw [Bool.eq_iff_iff,List.all_eq_true,List.all_eq_true];exact ⟨fun h x hx=>h x ((so.mem x).mpr hx),fun h x hx=>h x ((so.mem x).mp hx)⟩
theorem zly {d:Addr} {n:Str} (h:L2.Rd H d (.dK aQ)) (e:valV aQ (Sum.inr n)=some v):DGet H d (.str n) (some v):=.inl ⟨aQ,Sum.inr n,h,rfl,e.symm⟩
theorem LedAll.sb {K:Qn} {H H':Hp} {ps:List Addr} (e:SB ps H H'):∀ {aQ:List (Key × V)} {b:Bk},LedAll K H aQ b->(∀ p ∈ aQ,∀ q ∈ ps,p.2 ≠ .ref q)->LedAll K H' aQ b
 | _,_,.nil,_=>.nil
 | _,_,.cons a s t,h=>.cons (e.keep _ _ a fun z=>h _ bF _ z rfl) s (LedAll.sb e t fun p hp=>h p (bX _ hp))
theorem LedAll.ne {K:Qn} {H:Hp} {q:Addr} (hq:H q=none):∀ {aQ:List (Key × V)} {b:Bk},LedAll K H aQ b->∀ p ∈ aQ,p.2 ≠ .ref q
 | _,_,.nil,p,hp=>by cases hp
 | _,_,.cons a s t,p,hp=>by
  rcases Qv hp with e | e
  ·rw [e];intro z;rw [V.ref.inj z] at a;rw [a] at hq; cases hq
  ·exact LedAll.ne hq t p e
theorem LedAll.keys {K:Qn} {H:Hp}:∀ {aQ:List (Key × V)} {b:Bk},LedAll K H aQ b->aQ.map (·.1)=b.names.map Sum.inr
 | _,_,.nil=>rfl
 | _,_,.cons a s t=>by rw [Ky,LedAll.keys t]; rfl
theorem zb7 (ok:b.Ok) {es:List Str} (h:b.names.filter (into b es)=[]) {n:Str} (e:EndK b n):n ∈ b.names->n ∈ es:=by
 induction e with
 | @mk n _ ih =>
  intro hn;refine Classical.byContradiction fun z=>?_;have:n ∈ b.names.filter (into b es):=List.mem_filter.mpr ⟨hn,by
   unfold into;rw [Bool.and_eq_true,decide_eq_true_eq,List.all_eq_true];exact ⟨z,fun k hk=>Ya (ih k hk (Df ok hk))⟩⟩
  rw [h] at this; cases this
section
variable {J:It} {n:Nat} {G:Hp->Prop} {Y:Nat->Hp->V->Hp->Prop}
theorem zf3 (w:Walk J n G Y) {g:TG} {tt:TT} {tk tv:TE} {vs:List Nat} {σ:L2.St} {H:Hp} {D:Addr} {Qd:Hp->Prop} (hD:H D=none) (hn:n < sizeLine) (R:Nat->List (Key × V)->Hp->Prop) (h0:R 0 [] H) (hG:∀ H2,SB [] H H2->G H2)
  (st:∀ i us H2 H3,SB [D] H2 H3->R i us H2->R i us H3)
  (turn:∀ (Pv:Hp->Prop) i x H2 H' aQ,i < n->SB [] H H2->Y i H2 x H'->R i aQ H2->aQ.length<=i->H2 D=some (.dK aQ)->(∀ k z H5,SB [] H2 H5->R (i+1) (putK aQ k z) H5->∃ aQ k',kV k=kV k'/\H5 D=some (.dK aQ)/\aQ.length < sizeLine/\Pv (upd H5 D (.dK (putK aQ k' z)))) ->
   (∀ H4,SB [] H2 H4->R (i+1) aQ H4->Pv H4)->g x (wipe σ vs) H' fun σ2 H3=>wipe σ2 vs=wipe σ vs/\tt σ2 H3 fun b H4 =>
    if b=true then tk σ2 H4 fun y H5=>tv σ2 H5 fun z H6=>∃ aQ k,y=kV k/\H6 D=some (.dK aQ)/\aQ.length < sizeLine/\Pv (upd H6 D (.dK (putK aQ k z))) else Pv H4)
  (done:∀ aQ H2,SB [] H H2->H2 D=some (.dK aQ)->R n aQ H2->aQ.length<=n->Qd H2) :
  ∃ W:Nat->Nat->Hp->Prop,(∃ m,W 0 m (upd H D (.dK [])))/\∀ i m H,W i m H ->
   (J.stop i H/\Qd H)\/(J.go i H/\∃ Nx:Hp->Prop,(∀ H',Nx H'->∃ m',m' < m/\W (i+1) m' H')/\∀ x H',J.yld i H x H'->g x (wipe σ vs) H' fun σ2 H2=>wipe σ2 vs=wipe σ vs/\tt σ2 H2 fun b H3 =>
    if b=true then tk σ2 H3 fun y H4=>tv σ2 H4 fun z H5=>∃ aQ k,y=kV k/\H5 D=some (.dK aQ)/\aQ.length < sizeLine/\Nx (upd H5 D (.dK (putK aQ k z))) else Nx H3):=by
 refine DM (body:=fun Nx x H'=>g x (wipe σ vs) H' fun σ2 H2=>wipe σ2 vs=wipe σ vs/\tt σ2 H2 fun b H3 =>
    if b=true then tk σ2 H3 fun y H4=>tv σ2 H4 fun z H5=>∃ aQ k,y=kV k/\H5 D=some (.dK aQ)/\aQ.length < sizeLine/\Nx (upd H5 D (.dK (putK aQ k z))) else Nx H3) w (fun i H2=>SB [D] H H2/\∃ aQ,H2 D=some (.dK aQ)/\R i aQ H2/\aQ.length<=i)
  ⟨SB.new hD _,[],Qt,st _ _ _ _ (SB.new hD _) h0,Yc _⟩ (fun i H2 _ h=>hG H2 (h.1.drop hD)) (fun i x H2 H' hi h y=>?_) (fun H2 h=>?_)
 ·obtain ⟨s2,aQ,aW,hR,hl⟩:=h;refine turn _ i x H2 H' aQ hi (s2.drop hD) y hR hl aW (fun k z H5 s5 r5=>?_) (fun H4 s4 r4=>⟨s2.trans s4.nil,aQ,s4.keep _ _ aW aL,r4,by omega⟩);have eW:=s5.keep _ _ aW aL;refine ⟨aQ,k,Ja,eW,by omega,(s2.trans s5.nil).trans (SB.jI eW (by simp) _),_,Qt,st _ _ _ _ (SB.jI eW (by simp) _) r5,?_⟩;have:=length_putK aQ k z;omega
 ·obtain ⟨s2,aQ,aW,hR,hl⟩:=h;exact done aQ H2 (s2.drop hD) aW hR hl
end
theorem zb0 (nd:b.names.Nodup) {i:Nat} {k:Kd} (ek:b[i]?=some k):k.n ∉ Bk.names (b.take i):=by
 have e:b=b.take i++k::b.drop (i+1):=by
  have hl:i < b.length:=(Kq ek).1;have:=List.drop_eq_getElem_cons hl;rw [(Kq ek).2] at this;rw [<- this,List.take_append_drop]
 have h:b.names=Bk.names (b.take i)++k.n::Bk.names (b.drop (i+1)):=by
  conv=>lhs; rw [e]
  rw [Bk.names,Yj]; rfl
 rw [h] at nd;exact fun z=>(List.nodup_append.mp nd).2.2 _ z _ bF rfl
variable {K:Qn} {H H':Hp}
mutual
theorem Vc (e:∀ a xs,SqT K H a xs->SqT K H' a xs):∀ (d:PyData) (v:V),gH d=true->Dp K H v d->Dp K H' v d
 | .none,_,_,h=>by cases h; exact .non
 | .bool b,_,_,h=>by cases h; exact .bl b
 | .int i,_,_,h=>by cases h; exact .int i
 | .str x,_,_,h=>by cases h; exact .str x
 | .list ds,_,n,_=>by simp [gH] at n
 | .dict ds,_,n,_=>by simp [gH] at n
 | .tuple ds,_,n,h=>by
  cases h with
  | tup hs ha=>exact .tup (e _ _ hs) (Wf e ds _ (by simpa [gH] using n) ha)
theorem Wf (e:∀ a xs,SqT K H a xs->SqT K H' a xs):∀ (ds:List PyData) (vs:List V),ki ds=true->DpAll K H vs ds->DpAll K H' vs ds
 | [],_,_,h=>by cases h; exact .nil
 | d::ds,_,n,h=>by
  cases h with
  | cons h1 h2 =>
   simp [ki] at n;exact .cons (Vc e d _ n.1 h1) (Wf e ds _ n.2 h2)
end
theorem Bears.tp {β:Type} {enc:β->PyData} (e:∀ a xs,SqT K H a xs->SqT K H' a xs) (hn:∀ b,gH (enc b)=true):∀ {xs:List V} {bs:List β},Bears K H enc xs bs->Bears K H' enc xs bs
 | _,_,.nil=>.nil
 | _,_,.cons a b=>.cons (Vc e _ _ (hn _) a) (Bears.tp e hn b)
theorem VQ {D:Addr} {od:Obj} {u:HO} (h:H D=some (.frz od (.dK aQ))) (a:Addr) (xs:List V) (s:SqT K H a xs):SqT K (upd H D u) a xs:=by
 rcases s with (s | ⟨o,s⟩) | s
 ·exact .inl (.inl (by rw [upd_ne (fun z=>by rw [z,h] at s; cases s)]; exact s))
 ·exact .inl (.inr ⟨o,by rw [upd_ne (fun z=>by rw [z,h] at s; cases s)]; exact s⟩)
 ·exact .inr s
theorem wh {γ:Type} [DecidableEq γ] (p:γ × Int) (r:List (γ × Int)) (x:γ):sumE (p::r) x=(if p.1=x then p.2 else 0)+sumE r x:=rfl
namespace Gr
def woL (t:Tr) (m:Int):List (Tr × Int)->List (Tr × Int)
 | []=>[]
 | p::r=>if p.1 ≠ t then p::woL t m r else if m < p.2 then (p.1,p.2-m)::woL t m r else woL t m r
theorem lK (t:Tr) (m:Int):∀ as bs:List (Tr × Int),woL t m (as++bs)=woL t m as++woL t m bs
 | [],bs=>rfl
 | p::as,bs=>by
  simp only [List.cons_append,woL,lK t m as bs]
  split
  ·rfl
  ·split <;> rfl
theorem qW {t:Tr} {m:Int}:∀ {bs:List (Tr × Int)},(∀ p ∈ bs,p.1 ≠ t)->woL t m bs=bs
 | [],_=>rfl
 | p::r,h=>by
  rw [woL,if_pos (h p (by simp)),qW fun q hq=>h q (by simp [hq])]
theorem ly {t:Tr} {m:Int} (hm:0<=m):∀ {bs:List (Tr × Int)} {p:Tr × Int},p ∈ woL t m bs->∃ q ∈ bs,q.1=p.1/\p.2<=q.2/\(1<=q.2->1<=p.2)
 | [],_,h=>nomatch h
 | q::r,p,h=>by
  rw [woL] at h
  split at h
  ·rcases Qv h with e | h
   ·exact ⟨q,by simp,by rw [e],by rw [e]; exact Kw _,by rw [e]; exact id⟩
   ·obtain ⟨q',h1,h2⟩:=ly hm h; exact ⟨q',by simp [h1],h2⟩
  ·split at h
   ·rcases Qv h with e | h
    ·exact ⟨q,by simp,by rw [e],by rw [e]; show q.2-m<=q.2; omega,by rw [e]; show _->1<=q.2-m; omega⟩
    ·obtain ⟨q',h1,h2⟩:=ly hm h; exact ⟨q',by simp [h1],h2⟩
   ·obtain ⟨q',h1,h2⟩:=ly hm h; exact ⟨q',by simp [h1],h2⟩
theorem iM {t:Tr} {m:Int}:∀ {bs:List (Tr × Int)} {p:Tr × Int},p ∈ woL t m bs->∃ q ∈ bs,q.1=p.1
 | [],_,h=>nomatch h
 | q::r,p,h=>by
  rw [woL] at h
  split at h
  ·rcases Qv h with e | h
   ·exact ⟨q,by simp,by rw [e]⟩
   ·obtain ⟨q',h1,h2⟩:=iM h; exact ⟨q',by simp [h1],h2⟩
  ·split at h
   ·rcases Qv h with e | h
    ·exact ⟨q,by simp,by rw [e]⟩
    ·obtain ⟨q',h1,h2⟩:=iM h; exact ⟨q',by simp [h1],h2⟩
   ·obtain ⟨q',h1,h2⟩:=iM h; exact ⟨q',by simp [h1],h2⟩
theorem qV {R:Tr->Tr->Prop} {t:Tr} {m:Int}:∀ {bs:List (Tr × Int)},bs.Pairwise (fun p q=>R p.1 q.1)->(woL t m bs).Pairwise (fun p q=>R p.1 q.1)
 | [],_=>.nil
 | p::r,h=>by
  obtain ⟨h1,h2⟩:=List.pairwise_cons.mp h;have ih:=qV (t:=t) (m:=m) h2;have hk:∀ q ∈ woL t m r,R p.1 q.1:=fun q hq=>by
   obtain ⟨q',qd,e⟩:=iM hq;rw [<- e]; exact h1 q' qd
  rw [woL]
  split
  ·exact List.pairwise_cons.mpr ⟨hk,ih⟩
  ·split
   ·exact List.pairwise_cons.mpr ⟨hk,ih⟩
   ·exact ih
theorem vb (t:Tr) (m:Int):∀ bs:List (Tr × Int),tot (woL t m bs)<=tot bs
 | []=>Yc _
 | p::r=>by
  have ih:=vb t m r;rw [woL]
  split
  ·simp only [tot]; omega
  ·split
   ·simp only [tot]; omega
   ·simp only [tot]; omega
theorem vc (t:Tr) (m:Int):∀ bs:List (Tr × Int),(woL t m bs).length<=bs.length
 | []=>Yc _
 | p::r=>by
  have ih:=vc t m r;rw [woL]
  split
  ·simp only [Yk]; omega
  ·split
   ·simp only [Yk]; omega
   ·simp only [Yk]; omega
theorem rq {t:Tr} {m:Int} (x:Tr):∀ {bs:List (Tr × Int)},bs.Pairwise (fun p q=>p.1 ≠ q.1)->(∀ p ∈ bs,0 < p.2)->0<=m->sumE (woL t m bs) x=if x=t then (if m < sumE bs t then sumE bs t-m else 0) else sumE bs x
 | [],_,_,hm=>by
  show (0:Int)=if x=t then (if m < 0 then 0-m else 0) else 0
  split
  ·rw [if_neg (by omega)]
  ·rfl
 | p::r,h,hp,hm=>by
  obtain ⟨h1,h2⟩:=List.pairwise_cons.mp h;have ih:=rq (t:=t) (m:=m) x h2 (fun q hq=>hp q (by simp [hq])) hm;rw [woL];by_cases e:p.1=t
  ·rw [if_neg (by simpa using e)];have hr:∀ q ∈ r,q.1 ≠ t:=fun q hq z=>h1 q hq (by rw [e,z]);have z0:sumE r t=0:=jy hr;rw [qW hr,wh p r t,if_pos e,z0,Int.add_zero];by_cases d4:m < p.2
   ·rw [if_pos d4,if_pos d4,wh];by_cases hx:x=t
    ·rw [if_pos hx,hx,if_pos (by exact e),z0]; simp
    ·rw [if_neg hx,if_neg (by rw [e]; exact fun z=>hx z.symm),wh,if_neg (by rw [e]; exact fun z=>hx z.symm)]
   ·rw [if_neg d4,if_neg d4];by_cases hx:x=t
    ·rw [if_pos hx,hx,z0]
    ·rw [if_neg hx,wh,if_neg (by rw [e]; exact fun z=>hx z.symm),Int.zero_add]
  ·rw [if_pos e,wh,ih,wh p r t,if_neg e,Int.zero_add];by_cases hx:x=t
   ·rw [if_pos hx,if_pos hx,hx,if_neg e,Int.zero_add]
   ·rw [if_neg hx,if_neg hx,wh]
def wo (g:Gr) (t:Tr) (m:Int):Gr:=ofPs (woL t m g.ps)
theorem u6 (g:Gr) (t:Tr) (m:Int):(wo g t m).ps=woL t m g.ps:=a9 _
variable {C D E:Int} {g k:Gr}
theorem ye (h:g.Ok C):g.ps.Pairwise (fun p q=>p.1 ≠ q.1):=(aS.mp h).2.imp fun z=>Vd z
theorem ug (h:g.Ok C):∀ p ∈ g.ps,0 < p.2:=fun p hp=>by have:=((aS.mp h).1 p hp).2.2.1; omega
theorem fw (h:g.Ok C) {t:Tr} {m:Int} (hm:0<=m):(wo g t m).Ok C:=by
 obtain ⟨h1,h2⟩:=aS.mp h;refine fe.mpr ⟨fun p hp=>?_,qV (R:=fun a b=>dataLt (aC a) (aC b)=true) h2⟩;obtain ⟨q,hq,e,l,o⟩:=ly hm hp;obtain ⟨a,b,c,d⟩:=h1 q hq;rw [<- e];exact ⟨a,b,o c,by omega⟩
theorem Mf (h:g.Ok C) {t:Tr} {m:Int} (hm:0<=m) (x:Tr):S (wo g t m) x=if x=t then (if m < S g t then S g t-m else 0) else S g x:=by
 show sumE (wo g t m).ps x=_;rw [u6]; exact rq x (ye h) (ug h) hm
theorem qU (g:Gr) (t:Tr) (m:Int):(wo g t m).parts<=g.parts:=by
 rw [wo,aK,<- lM g]; exact vb _ _ _
theorem Di (g:Gr) (t:Tr) (m:Int):(wo g t m).ps.length<=g.ps.length:=by rw [u6]; exact vc _ _ _
theorem pE (g:Gr) (t:Tr) (m:Int):(wo g t m).deep<=g.deep:=by
 refine lG fun p hp=>?_;rw [u6] at hp;obtain ⟨q,hq,e⟩:=iM hp;rw [<- e]; exact aA g q hq
theorem lR:∀ {bs:List (Tr × Int)},bs.Pairwise (fun p q=>p.1 ≠ q.1)->∀ p ∈ bs,sumE bs p.1=p.2
 | [],_,_,h=>nomatch h
 | q::r,h,p,hp=>by
  obtain ⟨h1,h2⟩:=List.pairwise_cons.mp h;rw [wh];rcases Qv hp with e | hp
  ·rw [e,if_pos rfl,jy fun q' qd z=>h1 q' qd z.symm,Int.add_zero]
  ·rw [if_neg (h1 p hp),Int.zero_add]; exact lR h2 p hp
theorem hH (h:g.Ok C) {p:Tr × Int} (hp:p ∈ g.ps):S g p.1=p.2:=lR (ye h) p hp
theorem cf (h:g.Ok C) (x:Tr):(S g x=0/\∀ p ∈ g.ps,p.1 ≠ x)\/∃ m,(x,m) ∈ g.ps/\S g x=m/\1<=m/\m < C:=by
 by_cases e:∃ p ∈ g.ps,p.1=x
 ·obtain ⟨p,hp,rfl⟩:=e;obtain ⟨_,_,c,d⟩:=(aS.mp h).1 p hp;exact .inr ⟨p.2,hp,hH h hp,c,d⟩
 ·have h':∀ p ∈ g.ps,p.1 ≠ x:=fun p hp z=>e ⟨p,hp,z⟩;exact .inl ⟨jy h',h'⟩
theorem bM (h:g.Ok C) (x:Tr):0<=S g x:=by
 rcases cf h x with ⟨e,_⟩ | ⟨m,_,e,h1,_⟩
 ·omega
 ·omega
theorem EK (h:g.Ok C) (hC:1<=C) (x:Tr):S g x < C:=by
 rcases cf h x with ⟨e,_⟩ | ⟨m,_,e,_,h1⟩
 ·omega
 ·omega
theorem Mg (h:g.Ok C) {x:Tr} (hx:1<=S g x):∃ m,(x,m) ∈ g.ps/\S g x=m:=by
 rcases cf h x with ⟨e,_⟩ | ⟨m,h1,e,_⟩
 ·omega
 ·exact ⟨m,h1,e⟩
theorem vj (hg:∀ p ∈ g.ps,fm p.1.1/\p.1.2.Ok E/\1<=p.2) (hk:∀ p ∈ k.ps,fm p.1.1/\p.1.2.Ok E/\1<=p.2) (h:∀ t,S g t+S k t < E):(kf g k).Ok E:=by
 have hr:=Wc (enc:=aC) (g.ps++k.ps);have qp:∀ p ∈ g.ps++k.ps,fm p.1.1/\p.1.2.Ok E/\1<=p.2:=fun p hp=>(Qw hp).elim (hg p) (hk p);refine fe.mpr ⟨fun p hp=>?_,hr⟩;obtain ⟨q,hq,e⟩:=Iq (enc:=aC) _ p hp;obtain ⟨a,b,_⟩:=qp q hq;have h1:=(VR (enc:=aC) (fun p hp=>(qp p hp).2.2) p hp).1;have e2:sumE (xU aC (g.ps++k.ps)) p.1=p.2:=lR (hr.imp fun z=>Vd z) p hp;rw [Ph,Dg] at e2;have:=h p.1;refine ⟨e ▸ a,e ▸ b,h1,?_⟩;show p.2 < E;rw [<- e2]; exact this
theorem mf (h:g.Ok C) (hC:C<=E):∀ p ∈ g.ps,fm p.1.1/\p.1.2.Ok E/\1<=p.2:=fun p hp=>by
 obtain ⟨a,b,c,_⟩:=(aS.mp h).1 p hp;exact ⟨a,b.mono hC,c⟩
theorem gT (hg:g.Ok C) (hk:k.Ok D) (hC:1<=C) (hD:1<=D):(kf g k).Ok (C+D):=by
 refine vj (mf hg (by omega)) (mf hk (by omega)) fun t=>?_;have:=EK hg hC t;have:=EK hk hD t;omega
theorem Au (hg:g.Ok C):kf g .nil=g:=by
 have hS:∀ t,S (kf g .nil) t=S g t:=fun t=>by rw [zw]; exact Int.add_zero _
 cases g with
 | nil=>exact ext (gT (C:=1) (D:=1) (g:=.nil) (k:=.nil) trivial trivial (by omega) (by omega)) hg hS
 | cons n h m r =>
  have hC:1<=C:=by have:=hg.2.2.1; have:=hg.2.2.2.1; omega
  exact ext (gT hg (k:=.nil) (D:=1) trivial hC (by omega)) hg hS
def lO (m:Int) (bs:List (Tr × Int)):List (Tr × Int):=bs.map fun p=>(p.1,p.2*m)
def gS (g:Gr) (m:Int):Gr:=if m=0 then .nil else ofPs (lO m g.ps)
theorem vf (m:Int):∀ bs:List (Tr × Int),tot (lO m bs)=tot bs
 | []=>rfl
 | p::r=>by
  show 1+p.1.2.parts+tot (lO m r)=1+p.1.2.parts+tot r;rw [vf m r]
theorem kj (g:Gr) (m:Int):(gS g m).parts<=g.parts:=by
 rw [gS]
 split
 ·exact Nat.zero_le _
 ·rw [aK,vf,lM]; exact Yc _
theorem Aq (g:Gr) (m:Int):(gS g m).ps.length<=g.ps.length:=by
 rw [gS]
 split
 ·exact Nat.zero_le _
 ·rw [a9,lO,Ye]; exact Yc _
theorem vi {p:Tr × Int} (hp:p ∈ (gS g m).ps):∃ q ∈ g.ps,q.1=p.1:=by
 rw [gS] at hp
 split at hp
 ·exact nomatch hp
 ·rw [a9] at hp;obtain ⟨q,hq,e⟩:=Qx hp;exact ⟨q,hq,by rw [<- e]⟩
theorem gq (g:Gr) (m:Int):(gS g m).deep<=g.deep:=by
 refine lG fun p hp=>?_;obtain ⟨q,hq,e⟩:=vi hp;rw [<- e]; exact aA g q hq
theorem gQ (h:g.Ok C) (hC:1<=C) {m:Int} (hm:0<=m):(gS g m).Ok (C*m+C):=by
 have hle:C<=C*m+C:=by have:=Int.mul_nonneg (show (0:Int)<=C by omega) hm; omega
 rw [gS]
 split
 ·trivial
 ·obtain ⟨h1,h2⟩:=aS.mp h;refine fe.mpr ⟨fun p hp=>?_,?_⟩
  ·obtain ⟨q,hq,rfl⟩:=Qx hp;obtain ⟨a,b,c,d⟩:=h1 q hq;have m1:1<=m:=by omega
   refine ⟨a,b.mono hle,?_,?_⟩
   ·show 1<=q.2*m;have:=Int.mul_le_mul c m1 (by omega) (by omega);omega
   ·show q.2*m < C*m+C;have:=Int.mul_le_mul_of_nonneg_right (show q.2<=C by omega) hm;omega
  ·exact List.pairwise_map.mpr (h2.imp fun z=>z)
def pos (g:Gr) (t:Tr):Nat:=(g.ps.map (·.1)).idxOf t
theorem pos_at (h:g.Ok C) {t:Tr} {m:Int} (hp:(t,m) ∈ g.ps):g.ps[pos g t]?=some (t,m):=by
 have ht:t ∈ g.ps.map (·.1):=Ku ⟨_,hp,rfl⟩;have hl:pos g t < (g.ps.map (·.1)).length:=List.idxOf_lt_length_of_mem ht;have qh:pos g t < g.ps.length:=by rwa [Ye] at hl
 have e:(g.ps.map (·.1))[pos g t]=t:=List.getElem_idxOf hl;rw [List.getElem_map] at e;rw [Kp qh];have hm:=List.getElem_mem qh;have e1:=hH h hm;have e2:=hH h hp;rw [e] at e1;have e3:(g.ps[pos g t]).2=m:=by rw [<- e1]; exact e2
 exact congrArg some (Prod.ext e e3)
theorem DB (h:g.Ok C) {i:Nat} {p:Tr × Int} (hp:g.ps[i]?=some p):pos g p.1=i:=by
 have h1:=pos_at (t:=p.1) (m:=p.2) h (Qu hp);obtain ⟨hi,ei⟩:=Kq hp;obtain ⟨hj,ej⟩:=Kq h1;have nd:(g.ps.map (·.1)).Nodup:=List.pairwise_map.mpr (ye h);refine (List.getElem?_inj (by rw [Ye]; exact hj) nd).mp ?_;rw [List.getElem?_map,List.getElem?_map,h1,hp]
def Named (ns:List Str) (g:Gr):Prop:=∀ x ∈ g.within,x.1.1 ∈ ns
theorem aE:Named ns g ↔ ∀ p ∈ g.ps,p.1.1 ∈ ns/\Named ns p.1.2:=by
 unfold Named;rw [eE];constructor
 ·intro h p hp;exact ⟨h p (List.mem_flatMap.mpr ⟨p,hp,by simp⟩),fun x hx=>h x (List.mem_flatMap.mpr ⟨p,hp,by simp [hx]⟩)⟩
 ·intro h x hx;obtain ⟨p,hp,hx⟩:=List.mem_flatMap.mp hx;rcases Qv hx with e | hx
  ·rw [e]; exact (h p hp).1
  ·exact (h p hp).2 x hx
theorem cC (h:Named ns g) (t:Tr) (m:Int):Named ns (wo g t m):=aE.mpr fun p hp=>by
 rw [u6] at hp;obtain ⟨q,hq,e⟩:=iM hp;rw [<- e]; exact aE.mp h q hq
theorem iQ (h:Named ns g) (m:Int):Named ns (gS g m):=aE.mpr fun p hp=>by
 obtain ⟨q,hq,e⟩:=vi hp;rw [<- e]; exact aE.mp h q hq
theorem dM (h:Named ns g) (h2:Named ns k):Named ns (kf g k):=aE.mpr fun p hp=>by
 rw [tI] at hp;obtain ⟨q,hq,e⟩:=Iq (enc:=aC) _ p hp;rw [<- e];rcases Qw hq with hq | hq
 ·exact aE.mp h q hq
 ·exact aE.mp h2 q hq
def one (t:Tr) (m:Int):Gr:=.cons t.1 t.2 m .nil
theorem md (t:Tr) (m:Int):(one t m).ps=[(t,m)]:=rfl
theorem CL (t:Tr) (m:Int) (x:Tr):S (one t m) x=if t=x then m else 0:=by
 show sumE [(t,m)] x=_;rw [wh]; exact Int.add_zero _
theorem me {t:Tr} (h1:fm t.1) (h2:t.2.Ok C) (h3:1<=m) (h4:m < C):(one t m).Ok C:=⟨h1,h2,h3,h4,trivial,fun _ h=>nomatch h⟩
theorem gv {t:Tr} (h:t.1 ∈ ns) (h2:Named ns t.2) (m:Int):Named ns (one t m):=aE.mpr fun p hp=>by
 rw [md] at hp;rw [Qy hp]; exact ⟨h,h2⟩
end Gr
def Wd (d:PyData):Prop:=d.canLay0=true/\d.depth<=190
theorem Wd.of (h:SeqAt.shaped d=true):Wd d:=⟨SeqAt.canLay_of_shaped h,by have:=SeqAt.depth_of_shaped h; omega⟩
def Q5 (K:Qn):R2:=fun x y H Q=>∃ d e,Dp K H x d/\Dp K H y e/\Wd d/\Wd e/\Q (.bl (PyData.eqv d e)) H
def Q4 (K:Qn):R2:=fun x y H Q=>∃ d e,Dp K H x d/\Dp K H y e/\Wd d/\Wd e/\Q (.bl (!PyData.eqv d e)) H
section
variable {X:Cx}
theorem Vs {e:PyData} (hd:Wd d) (hu:n+195 < cLine):n+min d.depth e.depth < cLine:=by
 have h1:=hd.2;have h2:min d.depth e.depth<=d.depth:=Nat.min_le_left ..;omega
theorem O8 (hu:X.A.units+195 < cLine):OpR X (compareOp .Eq) (Q5 X.K):=by
 intro pn s σ H a b v1 v2 Q I ra rb ⟨d,e,da,db,wd,we,q⟩;obtain ⟨l1,k1⟩:=Dp.reads I d a v1 da ra;obtain ⟨l2,k2⟩:=Dp.reads I e b v2 db rb;exact SeqAt.compareEq_reads k1 k2 wd.1 we.1 (Vs wd hu) ⟨.bl _,H,I,Ja,q⟩
theorem O5 (hu:X.A.units+195 < cLine):OpR X (compareOp .NotEq) (Q4 X.K):=by
 intro pn s σ H a b v1 v2 Q I ra rb ⟨d,e,da,db,wd,we,q⟩;obtain ⟨l1,k1⟩:=Dp.reads I d a v1 da ra;obtain ⟨l2,k2⟩:=Dp.reads I e b v2 db rb;exact SeqAt.compareNe_reads k1 k2 wd.1 we.1 (Vs wd hu) ⟨.bl _,H,I,Ja,q⟩
def zer (K:Qn):V->List V->Hp->VK->Prop:=fun x xs H Q=>∃ (a:Addr) (y:V) (d:PyData) (ds:List PyData) (j:Nat) (z:PyData),x=V.ref a/\xs=[y]/\Dp K H (V.ref a) (.list ds)/\Dp K H y d /\
 PyData.canLayAll0 ds=true/\Wd d/\ds[j]?=some z/\PyData.eqv z d=true/\(∀ (m:Nat) (z':PyData),m < j->ds[m]?=some z'->PyData.eqv z' d=false)/\Q (.int (j:Nat)) H
theorem Qh (hu:X.A.units+196 < cLine):MtR X "list.index" (zer X.K):=by
 intro pn s σ H x xs v us Q I rx rs ⟨a,y,d,ds,j,z,ex,Tu,dl,dy,lay,wd,ez,eqz,before,q⟩;subst ex Tu;cases rx;cases rs with
 | cons ry rt =>
  rename_i uy ut;cases rt;obtain ⟨ls,k1⟩:=Dp.reads I d y uy dy ry;have room:X.A.units+1+min (PyData.depthAll ds) d.depth < cLine:=by
   have h1:=wd.2;have h2:min (PyData.depthAll ds) d.depth<=d.depth:=Nat.min_le_right ..;omega
  cases dl with
  | lst dh da =>
   obtain ⟨cn,vals,⟨⟨c1,c2,c3,c4⟩,cnt,JL,JY,YQ,Cb⟩,hlen⟩:=I.list dh;simp only at JY Cb;subst JY Cb;obtain ⟨ms,k2⟩:=Dp.readsAll I ds _ cn da vals;have el:cn.length=ds.length:=SeqAt.ReadsAll.length ds cn ms k2;have em:cn.map (SeqAt.readOf s.heap)=ds:=SeqAt.readsAll_map ds cn ms lay k2;have iV:=sizeLine_eq;have zww:=vals.length;obtain ⟨jd,_⟩:=Kq ez;have jl:j < cn.length:=by omega
   have ja:j < cn.toArray.size:=by simpa using jl
   have look:∀ (m:Nat) (hm:m < cn.toArray.size) (z':PyData),ds[m]?=some z'->SeqAt.readOf s.heap cn.toArray[m]=z':=by
    intro m hm z' e;have hm':m < cn.length:=by simpa using hm
    rw [<- em,List.getElem?_map,Kp hm'] at e;have e':=Yd (show some (SeqAt.readOf s.heap cn[m])=some z' from e);simpa using e'
   refine call_meets PySem.F.slot_list_index ⟨_,JL,Ja⟩ PySem.F.entry_list_index (PySem.F.args_list_index_2 _ _)
    (SeqAt.list_indexAt a cn.toArray cnt c2 c4 uy (fun u=>PyData.eqv (SeqAt.readOf s.heap u) d) j ja (by omega) ?_ ?_) ⟨JL,SeqAt.items_eqAt (vs:=cn.toArray) (show ReadsAll s.heap cn.toArray.toList ds ms from k2) k1 lay wd.1 room,?_⟩
   ·show PyData.eqv (SeqAt.readOf s.heap cn.toArray[j]) d=true;rw [look j ja z ez]; exact eqz
   ·intro m hm hmj;have e:ds[m]?=some ds[m]:=Kp (show m < ds.length by omega);show PyData.eqv (SeqAt.readOf s.heap cn.toArray[m]) d=false;rw [look m hm _ e]; exact before m _ hmj e
   ·exact ⟨.int (j:Nat),H,I.tok _,⟨_,Ja⟩,q⟩
def zcz (K:Qn) {β:Type} (enc:β->PyData) (vs:List V) (H:Hp) (Q:VK):Prop:=∃ (a:Addr) (xs:List V) (bs:List β),vs=[V.ref a]/\(SqL K H a xs\/SqT K H a xs)/\Bears K H enc xs bs/\AllAlike (bs.map enc)/\Sortable (bs.map enc)/\bs.length<=10000000/\(∀ b ∈ bs,(enc b).depth<=190) /\
 ∀ (p:Addr) (ys:List V),H p=none->Bears K H enc ys (bs.mergeSort (dataLe false enc))->Q (.ref p) (upd H p (.lst ys))
theorem zax {β:Type} (enc:β->PyData) (hu:X.A.units+195 < cLine):CallR X (.builtin "sorted") (zcz X.K enc):=by
 intro pn s σ H vs us Q I r ⟨a,xs,bs,e,hs,hb,nV,F5,hl,hd,q⟩;subst e;rw [Vals.ref1 r];rcases hs with hs | hs
 ·obtain ⟨cn,rv,D6,_⟩:=I.list hs;obtain ⟨e1,e2⟩:=FD I hb rv;refine Xq (kw:=[]) (vs:=cn) (bs:=bs) (enc:=enc) (b:=false) (R:=fun u b=>∃ v,RelV v u/\Dp X.K H v (enc b)) plain_is_rev (args_sorted1 _) (fun _=>args_list_sort _) D6 e1 e2 nV F5 (by rw [sizeLine_eq]; omega) (fun b m=>by have:=hd b m; omega) fun out h' h2 n k1 k2 tc ho h1=>?_;obtain ⟨ys,g2,g3⟩:=Ie h1;have I':Inv X pn σ H { s with heap:=h' }:=I.kept (t':=s.toks) k1;have hlen:ys.length<=sizeLine:=by rw [g2.length,ho,sizeLine_eq]; omega
  exact ⟨.ref _,upd H h'.objs.size (.lst ys),I'.laid (t':=s.toks) (fun b o e=>k2 b o e) (Yc _) ⟨hlen,out,n,g2,tc⟩,Ja,q _ ys (I'.hok.fresh (Yc _)) g3⟩
 ·obtain ⟨cn,rv,D6,_⟩:=I.tuple hs;obtain ⟨e1,e2⟩:=FD I hb rv;refine Xr (kw:=[]) (vs:=cn) (bs:=bs) (enc:=enc) (b:=false) (R:=fun u b=>∃ v,RelV v u/\Dp X.K H v (enc b)) plain_is_rev (args_sorted1 _) (fun _=>args_list_sort _) D6 e1 e2 nV F5 (by rw [sizeLine_eq]; omega) (fun b m=>by have:=hd b m; omega) fun out h' h2 n k1 k2 tc ho h1=>?_;obtain ⟨ys,g2,g3⟩:=Ie h1;have I':Inv X pn σ H { s with heap:=h' }:=I.kept (t':=s.toks) k1;have hlen:ys.length<=sizeLine:=by rw [g2.length,ho,sizeLine_eq]; omega
  exact ⟨.ref _,upd H h'.objs.size (.lst ys),I'.laid (t':=s.toks) (fun b o e=>k2 b o e) (Yc _) ⟨hlen,out,n,g2,tc⟩,Ja,q _ ys (I'.hok.fresh (Yc _)) g3⟩
end
theorem Gr.wd {C:Int} {g:Gr} (h:g.Ok C) (hd:g.deep<=63):Wd g.enc:=⟨by simp [Gr.enc,PyData.canLay0,Gr.mw h],by have:=g.eM; omega⟩
theorem Gr.An {C:Int} {t:Tr} (h0:fm t.1) (h:t.2.Ok C) (hd:t.2.deep<=62):Wd (Gr.aC t):=⟨by simp [Gr.aC,Gr.enc,PyData.canLay0,PyData.canLayAll0,Gr.mw h,Gr.eF h0],by have:=Gr.je t; omega⟩
theorem Gr.yq {C:Int}:∀ {ps:List (Tr × Int)},(∀ p ∈ ps,fm p.1.1/\p.1.2.Ok C)->PyData.canLayAll0 (ps.map fun p=>Gr.aC p.1)=true
 | [],_=>by simp [PyData.canLayAll0]
 | p::r,h=>by
  obtain ⟨a,b⟩:=h p (by simp);rw [Ky,PyData.canLayAll0,yq fun q hq=>h q (by simp [hq])];simp [Gr.aC,Gr.enc,PyData.canLay0,PyData.canLayAll0,Gr.mw b,Gr.eF a]
theorem Gr.vk (a b:Tr):PyData.eqv (Gr.aC a) (Gr.aC b)=decide (a=b):=Orderly.eq a b
def Bk.far (b:Bk) (k:Str) (n:Int):Int:=match b.get k with
 | some kd=>if kd.w=true then n else 0
 | none=>0
theorem Bk.ju (b:Bk) (k:Str) {n:Int} (h:0<=n):0<=b.far k n/\b.far k n<=n:=by
 unfold Bk.far
 split
 ·split <;> omega
 ·omega
namespace Gr
variable {b:Bk} {n:Int} {C F E:Int} {g fr:Gr}
def hO (r:Ru) (n:Int):Gr:=kf r.1 (gS r.2 n)
theorem qu (h:dC r) (hn:0<=n):(hO r n).Ok (1000000001*n+2000000002):=by
 have h2:=gQ h.2.1 (by omega) hn;exact (gT h.1 h2 (by omega) (by omega)).mono (by omega)
theorem oG (h:dC r) (n:Int):(hO r n).parts<=4:=by
 have h1:=kq r.1 (gS r.2 n);have h2:=kj r.2 n;have h3:=h.2.2;unfold hO;omega
theorem yN (h:dC r) (n:Int):(hO r n).deep<=4:=by
 have h1:=qL (hO r n);have h2:=oG h n;omega
theorem xk (h:∀ p ∈ Ru.within r,p.1.1 ∈ ns) (n:Int):Named ns (hO r n) :=
 dM (fun x hx=>h x (i8 _ hx)) (iQ (fun x hx=>h x (mW _ hx)) n)
def stk (b:Bk) (n:Int) (fr:Gr):Pl->Gr->Gr × Pl
 | [],g=>(g,[])
 | i::r,g=>match g.ps[i]? with
  | none=>(g,[])
  | some p=>if r=[] then (kf (wo g p.1 1) fr,[]) else
    (kf (wo g p.1 1) (one (p.1.1,(stk b n fr r p.1.2).1) (1+b.far p.1.1 n)),pos (kf (wo g p.1 1) (one (p.1.1,(stk b n fr r p.1.2).1) (1+b.far p.1.1 n))) (p.1.1,(stk b n fr r p.1.2).1)::(stk b n fr r p.1.2).2)
def bareAt:Gr->Pl->Option Str
 | _,[]=>none
 | g,i::r=>match g.ps[i]? with
  | none=>none
  | some p=>if r=[] then (if p.1.2=.nil then some p.1.1 else none) else bareAt p.1.2 r
theorem fq {p:Tr × Int} (e:g.ps[i]?=some p):stk b n fr [i] g=(kf (wo g p.1 1) fr,[]):=by
 rw [stk,e]; rfl
def chg (b:Bk) (n:Int) (fr:Gr) (r:Pl) (p:Tr × Int):Tr:=(p.1.1,(stk b n fr r p.1.2).1)
def ze (b:Bk) (n:Int) (fr:Gr) (r:Pl) (g:Gr) (p:Tr × Int):Gr:=kf (wo g p.1 1) (one (chg b n fr r p) (1+b.far p.1.1 n))
theorem c5 {r:Pl} {p:Tr × Int} (e:g.ps[i]?=some p) (hr:r ≠ []):stk b n fr (i::r) g=(ze b n fr r g p,pos (ze b n fr r g p) (chg b n fr r p)::(stk b n fr r p.1.2).2):=by
 rw [stk,e];simp only [if_neg hr]
 rfl
theorem cO {k:Str} (h:bareAt g [i]=some k):∃ p,g.ps[i]?=some p/\p.1=(k,.nil):=by
 rw [bareAt] at h;cases e:g.ps[i]? with
 | none=>rw [e] at h; cases h
 | some p =>
  rw [e] at h;simp only [if_true] at h;by_cases z:p.1.2=.nil
  ·rw [if_pos z] at h;exact ⟨p,Ja,Prod.ext (Yd h) z⟩
  ·rw [if_neg z] at h; cases h
theorem bB {r:Pl} {k:Str} (hr:r ≠ []) (h:bareAt g (i::r)=some k):∃ p,g.ps[i]?=some p/\bareAt p.1.2 r=some k:=by
 rw [bareAt] at h;cases e:g.ps[i]? with
 | none=>rw [e] at h; cases h
 | some p =>
  rw [e] at h;simp only [if_neg hr] at h;exact ⟨p,Ja,h⟩
theorem qz {pl:Pl} {k:Str} (h:bareAt g pl=some k):pl ≠ []:=fun z=>by rw [z] at h; cases h
theorem Dh {t:Tr} (h:g.Ok C) (hm:0<=m) (hC:C<=E):∀ p ∈ (wo g t m).ps,fm p.1.1/\p.1.2.Ok E/\1<=p.2:=mf (fw h hm) hC
theorem BF (h:g.Ok C) {t:Tr} {m:Int} (hm:0<=m) (x:Tr):S (wo g t m) x<=S g x:=by
 rw [Mf h hm]
 split
 ·next e=>
  subst e;have:=bM h x
  split <;> omega
 ·exact Kw _
theorem bE (h:g.Ok C) {p:Tr × Int} (hp:p ∈ g.ps):fm p.1.1/\p.1.2.Ok C/\1<=p.2/\p.2 < C:=(aS.mp h).1 p hp
theorem mU {p:Tr × Int} (h:g.Ok C) (hp:p ∈ g.ps):2<=C:=by have:=(bE h hp).2.2; omega
theorem ku (hn:0<=n) (hF:1<=F) (uH:fr.Ok F):∀ {pl:Pl} {g:Gr} {k:Str},g.Ok C->bareAt g pl=some k->(stk b n fr pl g).1.Ok (C+F+n+2)
 | [],_,_,_,h=>nomatch h
 | i::r,g,k,ho,h=>by
  by_cases hr:r=[]
  ·subst hr;obtain ⟨p,e,_⟩:=cO h;rw [fq e];have hC:=mU ho (Qu e);exact (gT (fw ho (by omega)) uH (by omega) hF).mono (by omega)
  ·obtain ⟨p,e,h2⟩:=bB hr h;rw [c5 e hr];have pm:=Qu e;have hC:=mU ho pm;obtain ⟨a,o,_,_⟩:=bE ho pm;have ih:=ku hn hF uH o h2;obtain ⟨f1,f2⟩:=Bk.ju b p.1.1 hn;refine vj (Dh ho (by omega) (by omega)) (fun q hq=>?_) fun t=>?_
   ·rw [md] at hq;rw [Qy hq];exact ⟨a,ih,by show 1<=1+b.far p.1.1 n; omega⟩
   ·have h1:=BF ho (t:=p.1) (m:=1) (by omega) t;have h3:=EK ho (by omega) t;rw [CL]
    split <;> omega
theorem og:∀ {pl:Pl} {g:Gr} {k:Str},bareAt g pl=some k->(stk b n fr pl g).1.parts<=pl.length*(g.parts+1)+fr.parts
 | [],_,_,h=>nomatch h
 | i::r,g,k,h=>by
  by_cases hr:r=[]
  ·subst hr;obtain ⟨p,e,_⟩:=cO h;rw [fq e];have h1:=kq (wo g p.1 1) fr;have h2:=qU g p.1 1;simp only [Yk,List.length_nil];omega
  ·obtain ⟨p,e,h2⟩:=bB hr h;rw [c5 e hr];have pm:=Qu e;have ih:=og h2;have h3:=kq (wo g p.1 1) (one (chg b n fr r p) (1+b.far p.1.1 n));have h4:=qU g p.1 1;have h5:(one (chg b n fr r p) (1+b.far p.1.1 n)).parts=1+(stk b n fr r p.1.2).1.parts:=rfl;have h6:=bA g p pm;have h7:r.length*(p.1.2.parts+1)<=r.length*(g.parts+1):=Nat.mul_le_mul_left _ (by omega);show (ze b n fr r g p).parts<=_;rw [Yk,Nat.succ_mul];unfold ze;omega
theorem jH:∀ {pl:Pl} {g:Gr} {k:Str},bareAt g pl=some k->(stk b n fr pl g).1.deep<=max g.deep (pl.length-1+fr.deep)
 | [],_,_,h=>nomatch h
 | i::r,g,k,h=>by
  by_cases hr:r=[]
  ·subst hr;obtain ⟨p,e,_⟩:=cO h;rw [fq e];have h2:=pE g p.1 1;exact jF (by omega) (by simp only [Yk,List.length_nil]; omega)
  ·obtain ⟨p,e,h2⟩:=bB hr h;rw [c5 e hr];have pm:=Qu e;have ih:=jH h2;have h4:=pE g p.1 1;have h5:(one (chg b n fr r p) (1+b.far p.1.1 n)).deep=max (1+(stk b n fr r p.1.2).1.deep) 0:=rfl;have h6:=aA g p pm;have h7:0 < r.length:=List.length_pos_iff.mpr hr;refine jF (by omega) ?_;rw [h5,Yk];omega
theorem gG:∀ {pl:Pl} {g:Gr} {k:Str},bareAt g pl=some k->pl.length<=g.deep
 | [],_,_,h=>nomatch h
 | i::r,g,k,h=>by
  by_cases hr:r=[]
  ·subst hr;obtain ⟨p,e,_⟩:=cO h;have:=aA g p (Qu e);simp only [Yk,List.length_nil];omega
  ·obtain ⟨p,e,h2⟩:=bB hr h;have:=aA g p (Qu e);have:=gG h2;simp only [Yk];omega
theorem iN {ns:List Str} (uH:Named ns fr):∀ {pl:Pl} {g:Gr} {k:Str},bareAt g pl=some k->Named ns g->Named ns (stk b n fr pl g).1
 | [],_,_,h,_=>nomatch h
 | i::r,g,k,h,hg=>by
  by_cases hr:r=[]
  ·subst hr;obtain ⟨p,e,_⟩:=cO h;rw [fq e];exact dM (cC hg _ _) uH
  ·obtain ⟨p,e,h2⟩:=bB hr h;rw [c5 e hr];obtain ⟨h3,h4⟩:=aE.mp hg p (Qu e);exact dM (cC hg _ _) (gv (t:=chg b n fr r p) h3 (iN uH h2 h4) _)
theorem rB:∀ {pl:Pl} {g:Gr} {k:Str},bareAt g pl=some k->(stk b n fr pl g).2.length=pl.length-1
 | [],_,_,h=>nomatch h
 | i::r,g,k,h=>by
  by_cases hr:r=[]
  ·subst hr;obtain ⟨p,e,_⟩:=cO h;rw [fq e]; rfl
  ·obtain ⟨p,e,h2⟩:=bB hr h;rw [c5 e hr];have ih:=rB h2;have h7:0 < r.length:=List.length_pos_iff.mpr hr;simp only [Yk];omega
theorem qA:∀ {pl:Pl} {g:Gr} {k:Str} (a:Str),bareAt g pl=some k->lk (a,g) (mc pl)=some (k,.nil)
 | [],_,_,_,h=>nomatch h
 | i::r,g,k,a,h=>by
  have hs:∀ p,g.ps[i]?=some p->stp g (some (i:Int))=some p.1:=fun p e=>by
   show (if 0<=(i:Int) then (g.ps[(i:Int).toNat]?).map (·.1) else none)=_;rw [if_pos (by omega),Int.toNat_natCast,e]; rfl
  by_cases hr:r=[]
  ·subst hr;obtain ⟨p,e,e2⟩:=cO h;show (stp g (some (i:Int))).bind (fun u=>lk u (mc []))=_;rw [hs p e,e2]; rfl
  ·obtain ⟨p,e,h2⟩:=bB hr h;show (stp g (some (i:Int))).bind (fun u=>lk u (mc r))=_;rw [hs p e];exact qA p.1.1 h2
end Gr
def W5 (K:Qn) {γ:Type} [DecidableEq γ] (enc:γ->PyData):Sp:=fun vs H Q _=>∃ (a:Addr) (xs:List V) (bs:List (γ × Int)),vs=[.ref a]/\SqL K H a xs/\Bears K H (kR enc) xs bs/\bs.length<=5000/\(∀ b ∈ bs,Wd (enc b.1)) /\
 ∀ (c:Addr) (ys:List V) (H':Hp),SB [] H H'->SqT K H' c ys->Bears K H' (kR enc) ys (jn bs)->Q (.ref c) H'
def QD (K:Qn):Sp:=fun vs H Q _=>∃ (v u:V) (g k:Gr),vs=[v,u]/\GA K H v g/\GA K H u k/\(∃ C,g.Ok C/\k.Ok C)/\g.deep<=63/\k.deep<=63/\g.ps.length<=2100/\k.ps.length<=2100/\∀ (x:V) (H':Hp),SB [] H H'->GA K H' x (Gr.kf g k)->Q x H'
def W3 (K:Qn):Sp:=fun vs H Q _=>∃ (v u:V) (g:Gr) (t:Tr) (m:Int),vs=[v,u,.int m]/\GA K H v g/\Dp K H u (Gr.aC t)/\(∃ C,g.Ok C/\t.2.Ok C)/\fm t.1/\g.deep<=63/\t.2.deep<=62/\g.ps.length<=5000/\∀ (x:V) (H':Hp),SB [] H H'->GA K H' x (Gr.wo g t m)->Q x H'
def VP (K:Qn):Sp:=fun vs H Q _=>∃ (v:V) (g:Gr) (m:Int),vs=[v,.int m]/\GA K H v g/\g.ps.length<=5000/\(∀ p ∈ g.ps,0<=p.2/\p.2 < 2 ^ 2000)/\0<=m/\m < 2 ^ 2000/\∀ (x:V) (H':Hp),SB [] H H'->GA K H' x (Gr.gS g m)->Q x H'
def V3 (K:Qn):Sp:=fun vs H Q _=>∃ (v u:V) (g:Gr) (t:Tr) (m:Int),vs=[v,u]/\GA K H v g/\Dp K H u (Gr.aC t)/\(∃ C,g.Ok C)/\g.deep<=63/\g.ps.length<=5000/\(t,m) ∈ g.ps/\∀ H',SB [] H H'->Q (.int (Gr.pos g t:Nat)) H'
def VJ (K:Qn):Sp:=fun vs H Q _=>∃ (v:V) (r:Ru) (n:Int),vs=[v,.int n]/\Dp K H v (Ru.enc r)/\dC r/\0<=n/\n < 2 ^ 900/\∀ (x:V) (H':Hp),SB [] H H'->GA K H' x (Gr.hO r n)->Q x H'
def UW (K:Qn) (C:Addr):Sp:=fun vs H Q _=>∃ (v:V) (b:Bk) (k:Str) (n:Int),vs=[v,.str k,.int n]/\fJ K C H v b/\b.length<=1000/\k ∈ b.names/\∀ H',SB [] H H'->Q (.int (b.far k n)) H'
def WG (K:Qn) (C:Addr):Sp:=fun vs H Q E=>∃ (v:V) (o:Option Int),vs=[v]/\Wh K H v o/\((∃ n,o=some n/\0<=n)->∀ H',SB [] H H'->Q .non H')/\((∀ n,o=some n->n < 0)->∀ H',SB [] H H'->E (.ref C) none H')
abbrev iZ:Ru:=(.nil,.nil)
def Wy (K:Qn) (C R:Addr):Sp:=fun vs H Q E=>∃ (v x:V) (b:Bk) (k:Str) (kd:Kd) (o:Option Int),vs=[v,.str k,x]/\fJ K C H v b/\b.Ok/\b.get k=some kd/\Wh K H x o /\
 (∀ (i:Nat) (r:Ru),o=some (i:Int)->(iZ::kd.rs)[i]?=some r->∀ (y:V) (H':Hp),SB [] H H'->Dp K H' y (Ru.enc r)->Q y H')/\((∀ i:Nat,o=some (i:Int)->(iZ::kd.rs)[i]?=none)->∀ H',SB [] H H'->E (.ref R) none H')
def Xh (K:Qn) (C:Addr):Sp:=fun vs H Q E=>∃ (v:V) (g:Gr),vs=[v]/\GA K H v g/\g.deep<=68/\g.parts<=200000/\((g.parts<=2000/\g.deep<=60)->∀ H',SB [] H H'->Q .non H')/\(¬ (g.parts<=2000/\g.deep<=60)->∀ H',SB [] H H'->E (.ref C) none H')
def PD (K:Qn):Sp:=fun vs H Q _=>∃ (v:V) (g:Gr) (ns:List Str),vs=[v]/\GA K H v g/\g.deep<=68/\g.parts<=3000/\Gr.Named ns g/\ns.length<=60/\∀ (l:Addr) (ss:List Str) (H':Hp),SB [] H H'->H l=none->H' l=some (.lst (ss.map V.str))->SrtOf ss (g.within.map (·.1.1))->ss.length<=60->Q (.ref l) H'
def FI (K:Qn) (C:Addr) (m:Nat):Sp:=fun vs H Q _=>∃ (v w fv:V) (a:Addr) (n D F:Int) (b:Bk) (g fr:Gr) (pl:Pl) (k:Str),vs=[v,w,.ref a,fv,.int n]/\(fJ K C H v b/\b.Ok)/\(GA K H w g/\g.Ok D/\g.deep<=60/\g.parts<=2000/\Gr.Named b.names g)/\(GA K H fv fr/\1<=F/\fr.Ok F/\fr.deep<=4/\fr.parts<=4)/\SqT K H a (pl.map fun n:Nat=>V.int (n:Int))/\Gr.bareAt g pl=some k/\pl.length < m/\0<=n /\
 ∀ (t:Addr) (u p:V) (H':Hp),SB [] H H'->SqT K H' t [u,p]->GA K H' u (Gr.stk b n fr pl g).1->Dp K H' p (wc (Gr.stk b n fr pl g).2)->Q (.ref t) H'
def Dc (g:Gr):Prop:=g.parts<=2000/\g.deep<=60
def Ij (K:Qn) (C NP NR NN TG:Addr):Sp:=fun vs H Q E=>∃ (v w x y:V) (a:Addr) (b:Bk) (g:Gr) (D:Int) (xs:List V) (os:List (Option Int)) (ro so:Option Int),vs=[v,w,.ref a,x,y]/\(fJ K C H v b/\b.Ok)/\(GA K H w g/\g.Ok D/\g.deep<=60/\g.parts<=2000/\Gr.Named b.names g)/\(SqT K H a xs/\Whs K H xs os)/\Wh K H x ro/\Wh K H y so/\(∀ n,so=some n->n < 2 ^ 900) /\
 ((∀ pl k,os=mc pl->Gr.bareAt g pl ≠ some k)->∀ H',SB [] H H'->E (.ref NP) none H') /\
 ∀ (pl:Pl) (k:Str) (kd:Kd),os=mc pl->Gr.bareAt g pl=some k->b.get k=some kd ->
  ((∀ i:Nat,ro=some (i:Int)->(iZ::kd.rs)[i]?=none)->∀ H',SB [] H H'->E (.ref NR) none H') /\
  ∀ (i:Nat) (r:Ru),ro=some (i:Int)->(iZ::kd.rs)[i]?=some r ->
   ((∀ n,so=some n->n < 0)->∀ H',SB [] H H'->E (.ref NN) none H') /\
   ∀ n:Int,so=some n->0<=n ->
    (¬ Dc (Gr.stk b n (Gr.hO r n) pl g).1->∀ H',SB [] H H'->E (.ref TG) none H') /\
    (Dc (Gr.stk b n (Gr.hO r n) pl g).1->∀ (t:Addr) (u p:V) (H':Hp),SB [] H H'->H t=none->SqT K H' t [u,p]->GA K H' u (Gr.stk b n (Gr.hO r n) pl g).1->Dp K H' p (wc (Gr.stk b n (Gr.hO r n) pl g).2)->Q (.ref t) H')
namespace Gr
variable {b:Bk} {n:Int} {C F:Int} {g fr:Gr}
theorem BC (hn:0<=n) (hF:1<=F) (uH:fr.Ok F) {i:Nat} {r:Pl} {p:Tr × Int} {k:Str} (ho:g.Ok C) (hr:r ≠ []) (e:g.ps[i]?=some p) (h:bareAt g (i::r)=some k):(∃ D,(ze b n fr r g p).Ok D)/\∃ m,(chg b n fr r p,m) ∈ (ze b n fr r g p).ps:=by
 have h1:=ku (b:=b) hn hF uH ho h;rw [c5 e hr] at h1;refine ⟨⟨_,h1⟩,?_⟩;have h2:1<=S (ze b n fr r g p) (chg b n fr r p):=by
  show 1<=S (kf _ _) _;rw [zw,CL,if_pos rfl];have:=bM (fw ho (t:=p.1) (m:=1) (by omega)) (chg b n fr r p);have:=(Bk.ju b p.1.1 hn).1;omega
 obtain ⟨m,hm,_⟩:=Mg h1 h2;exact ⟨m,hm⟩
end Gr
theorem Gr.vA:∀ {os:List (Option Int)} {g:Gr} {a:Str} {t:Tr},os ≠ []->lk (a,g) os=some t->∃ pl,os=mc pl/\(t.2=.nil->Gr.bareAt g pl=some t.1)
 | [],_,_,_,h,_=>absurd rfl h
 | o::r,g,a,t,_,h=>by
  rw [lk] at h;obtain ⟨u,hu,h2⟩:=Option.bind_eq_some_iff.mp h;cases o with
  | none=>cases hu
  | some n =>
   change (if 0<=n then (g.ps[n.toNat]?).map (·.1) else none)=some u at hu
   by_cases h0:0<=n
   ·rw [if_pos h0] at hu;obtain ⟨p,ep,rfl⟩:=Kr hu;have en:some n=some ((n.toNat:Nat):Int):=by rw [Int.toNat_of_nonneg h0]
    by_cases hr:r=[]
    ·subst hr;have e:p.1=t:=Yd h2;refine ⟨[n.toNat],by rw [en]; rfl,fun z=>?_⟩;rw [Gr.bareAt,ep];simp only [if_true];rw [e,if_pos z]
    ·obtain ⟨pl,e,h3⟩:=vA (a:=p.1.1) (g:=p.1.2) hr h2;refine ⟨n.toNat::pl,by rw [e,en]; rfl,fun z=>?_⟩;have hp:pl ≠ []:=fun z=>hr (by rw [e,z]; rfl);rw [Gr.bareAt,ep];simp only [if_neg hp];exact h3 z
   ·rw [if_neg h0] at hu; cases hu
theorem Gr.eS {ns:List Str}:∀ {pl:Pl} {g:Gr} {k:Str},Gr.Named ns g->Gr.bareAt g pl=some k->k ∈ ns
 | [],_,_,_,h=>nomatch h
 | i::r,g,k,hn,h=>by
  by_cases hr:r=[]
  ·subst hr;obtain ⟨p,e,e2⟩:=Gr.cO h;have:=(Gr.aE.mp hn p (Qu e)).1
   rwa [e2] at this
  ·obtain ⟨p,e,h2⟩:=Gr.bB hr h;exact eS (Gr.aE.mp hn p (Qu e)).2 h2
theorem Whs.ints {K:Qn} {H:Hp}:∀ {pl:Pl} {xs:List V},Whs K H xs (mc pl)->xs=pl.map fun n:Nat=>V.int (n:Int)
 | [],_,h=>by cases h; rfl
 | i::r,_,h=>by
  cases h with
  | cons h1 h2 =>
   rw [Whs.ints h2];rcases h1 with ⟨n,rfl,e⟩ | ⟨e,_⟩
   ·rw [<- Yd e]; rfl
   ·cases e
theorem Wh.int {K:Qn} {H:Hp} {v:V} {n:Int} (h:Wh K H v (some n)):v=.int n:=by
 rcases h with ⟨i,rfl,e⟩ | ⟨e,_⟩
 ·rw [Yd e]
 ·cases e
theorem VT {kd:Kd} (h:∀ r ∈ kd.rs,dC r) {i:Nat} {r:Ru} (e:(iZ::kd.rs)[i]?=some r):dC r:=by
 rcases Qv (Qu e) with rfl | hm
 ·exact ⟨trivial,trivial,Nat.zero_le _⟩
 ·exact h r hm
theorem zau {kd:Kd} (h:∀ r ∈ kd.rs,∀ p ∈ Ru.within r,p.1.1 ∈ ns) {i:Nat} {r:Ru} (e:(iZ::kd.rs)[i]?=some r):∀ p ∈ Ru.within r,p.1.1 ∈ ns:=by
 rcases Qv (Qu e) with rfl | hm
 ·exact fun p hp=>nomatch hp
 ·exact h r hm
theorem VS:∀ {p q:Pl},mc p=mc q->p=q
 | [],[],_=>rfl
 | [],_::_,h=>nomatch h
 | _::_,[],h=>nomatch h
 | i::r,j::s,h=>by
  obtain ⟨h1,h2⟩:=List.cons.inj (show some (i:Int)::mc r=some (j:Int)::mc s from h);have:=Yd h1;rw [VS h2,show i=j by omega]
def OO (x:Gr × Pl):PyData:=.tuple [x.1.enc,wc x.2]
theorem zjt {K:Qn} {H:Hp} {p:V} {g:Gr} {pl:Pl} (h:SqT K H t [u,p]) (hu:GA K H u g) (hp:Dp K H p (wc pl)):Dp K H (.ref t) (OO (g,pl)):=.tup h (.cons hu (.cons hp .nil))
theorem Gr.xS:Wd (.tuple []):=⟨by decide +kernel,by decide +kernel⟩
theorem zc2 {K:Qn} {NP NR NN TG:Addr} {H:Hp} {w:V} {g:Gr} {n:Int} {pl:Pl} {k:Str} {kd:Kd} {vs:List V} (evs:vs=[v,w,.ref a,.int (i:Int),.int n]) (hv:fJ K C H v b) (ok:b.Ok) (hw:GA K H w g) (go:g.Ok D) (gd:g.deep<=60) (gp:g.parts<=2000) (gn:Gr.Named b.names g)
  (ha:SqT K H a (pl.map fun n:Nat=>V.int (n:Int))) (hb:Gr.bareAt g pl=some k) (eg:b.get k=some kd) (er:(iZ::kd.rs)[i]?=some r) (n0:0<=n) (nb:n < 2 ^ 900)
  (q:Dc (Gr.stk b n (Gr.hO r n) pl g).1->∀ (t:Addr) (H':Hp),SB [] H H'->H t=none->Dp K H' (.ref t) (OO (Gr.stk b n (Gr.hO r n) pl g))->Q (.ref t) H')
  (qE:¬ Dc (Gr.stk b n (Gr.hO r n) pl g).1->∀ H',SB [] H H'->E (.ref TG) none H'):Ij K C NP NR NN TG vs H Q E:=by
 subst evs;refine ⟨v,w,.int i,.int n,a,b,g,D,_,mc pl,some (i:Int),some n,Ja,⟨hv,ok⟩,⟨hw,go,gd,gp,gn⟩,⟨ha,Whs.pl K H pl⟩,.inl ⟨_,Ja,Ja⟩,.inl ⟨n,Ja,Ja⟩,(fun m e=>by cases e; exact nb),fun h=>absurd hb (h pl k rfl),fun BX k' oq e1 Ad TC=>?_⟩;have e1:=VS e1;subst e1;have e2:=hb.symm.trans Ad;cases e2;have e3:=eg.symm.trans TC;cases e3;refine ⟨fun h=>absurd (h i rfl) (by rw [er]; simp),fun i' r' e4 Ag=>?_⟩;have e4:i'=i:=by have:=Yd e4; omega
 subst e4;have e5:=er.symm.trans Ag;cases e5;refine ⟨fun h=>absurd (h n rfl) (by omega),fun m em m0=>?_⟩;have em:=Yd em;subst em;exact ⟨qE,fun Aa t u p H' s nt ht hu hp=>q Aa t H' s nt (zjt ht hu hp)⟩
theorem zda {K:Qn} {H:Hp} {x:Gr × Pl} (h:Dp K H v (OO x)):∃ t u a,v=.ref t/\SqT K H t [u,.ref a]/\GA K H u x.1/\SqT K H a (x.2.map fun n:Nat=>V.int (n:Int)):=by
 cases h with
 | @tup t us _ hs hda =>
 cases hda with
 | cons g1 hda =>
 cases hda with
 | cons g2 hda =>
 cases hda;obtain ⟨pa,rfl,lE⟩:=NG g2;exact ⟨t,_,pa,Ja,hs,g1,lE⟩
theorem fz {σ:L2.St} {H:Hp} {Q:List V->Hp->Prop} (h:Q [] H):tNil σ H Q:=h
theorem zcp (n d:Nat) (h:1<=n):HT.sIx n d (some (-1))=n-1:=by
 unfold HT.sIx;simp
 try omega
theorem zay (xs:List V) (h:1<=xs.length):cutV xs none (some (-1))=xs.take (xs.length-1):=by
 unfold cutV;rw [zcp _ _ h,show HT.sIx xs.length 0 none=0 from rfl];simp
section
variable {γ:Type} [DecidableEq γ]
def wsum (f:γ->Int) (l:List (γ × Int)):Int:=match l with
 | []=>0
 | p::r=>f p.1*p.2+wsum f r
theorem QC (f:γ->Int):∀ as bs:List (γ × Int),wsum f (as++bs)=wsum f as+wsum f bs
 | [],bs=>by simp [wsum]
 | p::r,bs=>by show _+wsum f (r++bs)=_; rw [QC f r bs,wsum]; omega
theorem Iu (f:γ->Int) (t:γ):∀ l:List (γ × Int),wsum f l=f t*sumE l t+wsum f (l.filter fun p=>decide (p.1 ≠ t))
 | []=>by simp [wsum,sumE]
 | p::r=>by
  have ih:=Iu f t r;by_cases e:p.1=t
  ·rw [List.filter_cons_of_neg (by simpa using e)];show f p.1*p.2+wsum f r=f t*((if p.1=t then p.2 else 0)+sumE r t)+_;rw [if_pos e,Int.mul_add,e,ih]; omega
  ·rw [List.filter_cons_of_pos (by simpa using e)];show f p.1*p.2+wsum f r=f t*((if p.1=t then p.2 else 0)+sumE r t)+(f p.1*p.2+_);rw [if_neg e,Int.zero_add,ih]; omega
theorem Im (t x:γ):∀ l:List (γ × Int),sumE (l.filter fun p=>decide (p.1 ≠ t)) x=if x=t then 0 else sumE l x
 | []=>by simp [sumE]
 | p::r=>by
  have ih:=Im t x r;by_cases e:p.1=t
  ·rw [List.filter_cons_of_neg (by simpa using e),ih];by_cases hx:x=t
   ·rw [if_pos hx,if_pos hx]
   ·rw [if_neg hx,if_neg hx,wh,if_neg (by rw [e]; exact fun z=>hx z.symm),Int.zero_add]
  ·rw [List.filter_cons_of_pos (by simpa using e),wh,ih];by_cases hx:x=t
   ·rw [if_pos hx,if_pos hx,if_neg (by rw [hx]; exact e)]; rfl
   ·rw [if_neg hx,if_neg hx,wh]
theorem Xv {p:γ × Int} {r:List (γ × Int)}:((p::r).filter fun q=>decide (q.1 ≠ p.1)).length<=r.length:=by
 rw [List.filter_cons_of_neg (by simp)]; exact List.length_filter_le _ _
theorem NT (f:γ->Int):∀ (n:Nat) (as bs:List (γ × Int)),as.length+bs.length<=n->(∀ x,sumE as x=sumE bs x)->wsum f as=wsum f bs
 | n,[],[],_,_=>rfl
 | 0,p::r,bs,h,_=>by simp at h
 | 0,[],p::r,h,_=>by simp at h
 | n+1,p::r,bs,h,e=>by
  rw [Iu f p.1 (p::r),Iu f p.1 bs,e p.1,NT f n ((p::r).filter fun q=>decide (q.1 ≠ p.1)) (bs.filter fun q=>decide (q.1 ≠ p.1)) ?_ fun x=>?_]
  ·have h1:=Xv (p:=p) (r:=r);have h2:=List.length_filter_le (fun q:γ × Int=>decide (q.1 ≠ p.1)) bs;simp only [Yk] at h;omega
  ·rw [Im,Im,e]
 | n+1,[],p::r,h,e=>by
  rw [Iu f p.1 (p::r),Iu f p.1 [],<- e p.1,NT f n (([]:List (γ × Int)).filter fun q=>decide (q.1 ≠ p.1)) ((p::r).filter fun q=>decide (q.1 ≠ p.1)) ?_ fun x=>?_]
  ·have h1:=Xv (p:=p) (r:=r);simp only [Yk,List.length_nil,List.filter_nil] at h ⊢;omega
  ·rw [Im,Im,e]
end
namespace Gr
theorem qT (f:Tr->Int) (m:Int):∀ l:List (Tr × Int),wsum f (lO m l)=wsum f l*m
 | []=>by show (0:Int)=0*m; rw [Int.zero_mul]
 | p::r=>by
  show f p.1*(p.2*m)+wsum f (lO m r)=(f p.1*p.2+wsum f r)*m;rw [qT f m r,Int.add_mul,Int.mul_assoc]
end Gr
theorem SB.Ap {ps:List Addr} {H H':Hp} {d:Addr} {od:Obj} {u:HO} (s:SB ps (upd H d (.frz od u)) H') (hd:H d=some u) (n1:∀ xs,u ≠ .tup xs) (n2:∀ o v,u ≠ .frz o v):SB ps H (upd H' d u):=by
 refine ⟨fun b o e hb=>?_,fun b xs e=>?_,fun b o v e=>?_,fun b e=>?_⟩
 ·by_cases z:b=d
  ·rw [z,Qt]; rw [z,hd] at e; exact e
  ·rw [upd_ne z]; exact s.keep b o (by rw [upd_ne z]; exact e) hb
 ·have z:b ≠ d:=fun z=>by rw [z,hd] at e; exact n1 _ (Yd e)
  rw [upd_ne z]; exact s.tups b xs (by rw [upd_ne z]; exact e)
 ·have z:b ≠ d:=fun z=>by rw [z,hd] at e; exact n2 _ _ (Yd e)
  rw [upd_ne z]; exact s.frzs b o v (by rw [upd_ne z]; exact e)
 ·have z:b ≠ d:=fun z=>by rw [z,Qt] at e; cases e
  rw [upd_ne z] at e;have:=s.kh b e
  rwa [upd_ne z] at this
structure zbf (K:Qn) (mg:Str->Option Value) (c:Str->Addr) (fE names kinds:List Str):Prop where
 glo:∀ n ∈ names,mg n=some (.ref (c n))
 Gu:mg "FellError"=some (.ref (c "FellError"))
 ve:mg "ValueError"=none
 exc:∀ n ∈ fE,ExcC K (c n)
 exm:∀ n ∈ fE,PySem.W.exmOne K (.ref (c n)) (.ref (c "FellError"))=some true
 kve:∀ n ∈ fE,PySem.W.kitOne K (.ref (c n)) (.type "ValueError")=some true
 kit:∀ n ∈ fE,∀ m ∈ names,PySem.W.kitOne K (.ref (c n)) (.ref (c m))=some (decide (n=m))
 nok:∀ n ∈ kinds,PySem.W.findIn K (.ref (c n)) "kind"=some none
 exo:∀ n ∈ fE,∀ m ∈ names,PySem.W.exmOne K (.ref (c n)) (.ref (c m))=some (decide (n=m))
def LW (K:Qn) (c:Str->Addr) (fE names:List Str):Bool:=fE.all fun n=>OZ K (c n)&&(decide (PySem.W.exmOne K (.ref (c n)) (.ref (c "FellError"))=some true)&&(decide (PySem.W.kitOne K (.ref (c n)) (.type "ValueError")=some true)&&names.all fun m=>decide (PySem.W.kitOne K (.ref (c n)) (.ref (c m))=some (decide (n=m)))&&decide (PySem.W.exmOne K (.ref (c n)) (.ref (c m))=some (decide (n=m)))))
theorem zey {K:Qn} {c:Str->Addr} {fE names kinds:List Str} (h:LW K c fE names=true) (g:∀ n ∈ names,mg n=some (.ref (c n))) (f:mg "FellError"=some (.ref (c "FellError"))) (v:mg "ValueError"=none) (k:∀ n ∈ kinds,PySem.W.findIn K (.ref (c n)) "kind"=some none):zbf K mg c fE names kinds:=by
 have hh:∀ n ∈ fE,OZ K (c n)=true/\PySem.W.exmOne K (.ref (c n)) (.ref (c "FellError"))=some true/\PySem.W.kitOne K (.ref (c n)) (.type "ValueError")=some true/\∀ m ∈ names,PySem.W.kitOne K (.ref (c n)) (.ref (c m))=some (decide (n=m))/\PySem.W.exmOne K (.ref (c n)) (.ref (c m))=some (decide (n=m)):=fun n hn=>by
  have:=List.all_eq_true.mp h n hn;simp only [Bool.and_eq_true,decide_eq_true_eq,List.all_eq_true] at this;exact this
 exact ⟨g,f,v,fun n hn=>zdj (hh n hn).1,fun n hn=>(hh n hn).2.1,fun n hn=>(hh n hn).2.2.1,fun n hn m hm=>((hh n hn).2.2.2 m hm).1,k,fun n hn m hm=>((hh n hn).2.2.2 m hm).2⟩
namespace Lad
theorem fN {k:Lad} (e:l.enc=k.enc):l=k:=by
 have h:=bw l k;rw [<- e,bw] at h;by_cases z:l=k
 ·exact z
 ·rw [Qz z,Ya rfl] at h; cases h
def jm (x:Lad) (xs:List Lad):Lad:=xs.foldl (fun a y=>if a.lt y=true then y else a) x
theorem ml:∀ (xs:List Lad) (x:Lad),maxD x.enc (xs.map enc)=(jm x xs).enc
 | [],x=>rfl
 | y::r,x=>by
  show maxD (if dataLt x.enc y.enc=true then y.enc else x.enc) (r.map enc)=(jm (if x.lt y=true then y else x) r).enc;by_cases h:x.lt y=true
  ·rw [if_pos h,if_pos (show dataLt x.enc y.enc=true from h)]; exact ml r y
  ·rw [if_neg h,if_neg (show ¬ dataLt x.enc y.enc=true from h)]; exact ml r x
theorem gy:∀ (xs:List Lad) (x:Lad),jm x xs ∈ x::xs
 | [],x=>bF ..
 | y::r,x=>by
  show jm (if x.lt y=true then y else x) r ∈ _;by_cases h:x.lt y=true
  ·rw [if_pos h]; exact bX _ (gy r y)
  ·rw [if_neg h];rcases Qv (gy r x) with e | e
   ·rw [e]; exact bF ..
   ·exact bX _ (bX _ e)
theorem iR:∀ (xs:List Lad) (x:Lad),∀ y ∈ x::xs,(jm x xs).lt y=false
 | [],x,y,hy=>by rw [Qy hy]; exact lt_irrefl _
 | z::r,x,y,hy=>by
  show (jm (if x.lt z=true then z else x) r).lt y=false;by_cases h:x.lt z=true
  ·rw [if_pos h];have g:=iR r z;rcases Qv hy with rfl | hy
   ·cases e:(jm z r).lt y with
    | false=>rfl
    | true =>
     have:=lt_trans _ _ _ e h;rw [g z (bF ..)] at this; cases this
   ·exact g y hy
  ·rw [if_neg h];have g:=iR r x;rcases Qv hy with rfl | hy
   ·exact g _ (bF ..)
   rcases Qv hy with rfl | hy
   ·cases e:(jm x r).lt y with
    | false=>rfl
    | true =>
     have h:=eq_false_of_ne_true h;have gx:=g x (bF ..);by_cases e1:x=y
     ·subst e1; rw [gx] at e; cases e
     ·have:=lt_trans _ _ _ e (eI x y e1 h);rw [gx] at this; cases this
   ·exact g y (bX _ hy)
end Lad
section
variable {prog:Program} {w:World} {A:Around} {E:Value->Shared->Prop} {s:Shared}
theorem zi6 {l:Addr} {vs:Array Value} {x:PyData} {xs:List PyData} {as:List Addr} {Q:Value->Shared->Prop} (hh:A.handled=none) (hl:s.heap.IsList l vs) (hr:ReadsAll s.heap vs.toList (x::xs) as) (ha:AlikeAll (x::xs)) (hu:A.units+1+PyData.depthAll (x::xs) < cLine)
  (h:∀ (i:Nat) v h' tk,vs[i]?=some v->(x::xs).getD i .none=maxD x xs->(∀ b o,s.heap.get? b=some o->h'.get? b=some o)->Q v { s with heap:=h',toks:=tk }) :
  wpAny (model prog w) A (call (.builtin "max") [.ref l]) Q E s:=by
 have hn:vs.size=xs.length+1:=readsAll_len hr;refine call_max_walkH (iter_listW (A:=A.in1) hh hl fun s2 e W st hfp hw hk=>?_);refine ⟨_,_,_,_,_,_,_,s.heap,_,Ja,W,st,hfp,by omega,hw,hk,cmpIn_gt (A:=A.in1) hr ha (by show A.units+1+_ < _; exact hu),fun v s' hP m=>?_⟩;obtain ⟨h',tk,rfl,xI⟩:=moved_old e rfl m;have e1:vs.size-1=xs.length:=by omega
 have e2:=(argBest_fold (fun a b=>dataLt b a) PyData.none x xs xs.length (Yc _)).2;rw [Yh] at e2;refine h _ v h' tk hP ?_ xI;rw [e1];unfold maxD;exact e2
end
def zkw (K:Qn):List V->Hp->VK->Prop:=fun vs H Q=>∃ (a:Addr) (xs:List V) (l:Lad) (ls:List Lad),vs=[V.ref a]/\SqL K H a xs/\Bears K H Lad.enc xs (l::ls)/\(∀ k ∈ l::ls,k.deep<=45)/\∀ x:V,LA K H x (Lad.jm l ls)->Q x H
theorem Vals.at':∀ {vs:List V} {us:List Value} {i:Nat} {u:Value},Vals vs us->us[i]?=some u->∃ v,vs[i]?=some v/\RelV v u
 | _,_,0,u,.cons r _,h=>⟨_,rfl,by have e:=Yd (show some _=some u from h); subst e; exact r⟩
 | _,_,i+1,u,.cons _ t,h=>Vals.at' (i:=i) t (by simpa using h)
 | _,_,i,u,.nil,h=>by simp at h
theorem zex {X:Cx} (hc:X.calm=true) (hu:X.A.units+110 < cLine):CallR X (.builtin "max") (zkw X.K):=by
 intro pins s σ H vs us Q I r h;obtain ⟨a,xs,l,ls,rfl,hs,hb,hd,q⟩:=h;obtain ⟨cn,rv,hl,_⟩:=I.list hs;rw [Vals.ref1 r];obtain ⟨_,e2⟩:=FD I hb rv;obtain ⟨as,ra⟩:=each_readsAll Lad.enc e2;have al:AlikeAll ((l::ls).map Lad.enc):=⟨fun x hx y hy=>by
  obtain ⟨p,_,rfl⟩:=Qx hx;obtain ⟨p2,_,rfl⟩:=Qx hy;exact Lad.dN p p2,fun x hx=>by
  obtain ⟨p,_,rfl⟩:=Qx hx;exact Lad.y5 p⟩
 have zzm:PyData.depthAll ((l::ls).map Lad.enc)<=91:=WV fun d Ac=>by
  obtain ⟨p,hp,rfl⟩:=Qx Ac;have:=hd p hp;have:=Lad.eM p;omega
 refine zi6 (vs:=cn.toArray) (x:=l.enc) (xs:=ls.map Lad.enc) (as:=as) (I.ok.hd hc) hl.isList (by simpa using ra) al (by show X.A.units+1+PyData.depthAll ((l::ls).map Lad.enc) < cLine; omega) fun i u h' tk hi e hk=>?_;obtain ⟨v,ev,rvu⟩:=Vals.at' (i:=i) rv (by simpa using hi);obtain ⟨p,ep,hp⟩:=hb.get ev;have e3:p.enc=(Lad.jm l ls).enc:=by
  rw [<- Lad.ml,<- e,show (l.enc::ls.map Lad.enc)=(l::ls).map Lad.enc from rfl,List.getD_eq_getElem?_getD,List.getElem?_map,ep]
  rfl
 have e4:=Lad.fN e3;exact ⟨v,H,I.kept hk,rvu,q v (by rw [<- e4]; exact hp)⟩
def di (w:Bool) (o l:Lad):Lad:=if w=true then Lad.spd o l else Lad.cL o l
def Bk.wide (b:Bk) (n:Str):Bool:=match b.get n with
 | some k=>k.w
 | none=>false
theorem Bk.lL {n:Str} {k:Kd} (h:b.get n=some k):b.wide n=k.w:=by unfold Bk.wide; rw [h]
namespace Gr
def rkT (b:Bk) (ρ:Str->Lad):Gr->List Lad
 | .nil=>[]
 | .cons k g m r=>Lad.bH (di (b.wide k) (ρ k) (Lad.aT (rkT b ρ g))) m::rkT b ρ r
def rk (b:Bk) (ρ:Str->Lad) (g:Gr):Lad:=Lad.aT (rkT b ρ g)
def eA (b:Bk) (ρ:Str->Lad) (t:Tr):Lad:=di (b.wide t.1) (ρ t.1) (rk b ρ t.2)
variable {b:Bk} {ρ:Str->Lad} {C:Int}
theorem kG:∀ g:Gr,rkT b ρ g=g.ps.map fun p=>Lad.bH (eA b ρ p.1) p.2
 | .nil=>rfl
 | .cons k g m r=>by
  show _::rkT b ρ r=_::r.ps.map _;rw [kG r]; rfl
theorem II (g:Gr):rk b ρ g=Lad.aT (g.ps.map fun p=>Lad.bH (eA b ρ p.1) p.2):=by unfold rk; rw [kG]
theorem qF (ls:List Lad) (x:Lad):Lad.S (Lad.aT ls) x=(ls.map fun l=>Lad.S l x).sum:=by
 have e:Lad.S (Lad.aT ls) x=Lad.aB (ls.flatMap Lad.ps) x:=by
  unfold Lad.aT Lad.S;rw [Lad.a9,Lad.lS,Lad.jf (Lad.bC _)]
 rw [e];clear e
 induction ls with
 | nil=>rfl
 | cons l r ih=>rw [List.flatMap_cons,Lad.bu,ih]; rfl
theorem qD (g:Gr) (x:Lad):Lad.S (rk b ρ g) x=wsum (fun t=>Lad.S (eA b ρ t) x) g.ps:=by
 rw [II,qF]
 induction g.ps with
 | nil=>rfl
 | cons p r ih =>
  rw [Ky,Ky,List.sum_cons,ih,Lad.hE]
  rfl
end Gr
structure LFit (l:Lad):Prop where
 deep:l.deep<=25
 parts:l.parts<=900
 num:∀ p ∈ l.ps,0<=p.2/\p.2 < 2 ^ 2000
def Gr.v8 (b:Bk) (ρ:Str->Lad) (ns:List Str):Gr->Prop
 | .nil=>True
 | .cons k g m r=>(k ∈ ns/\k ∈ b.names/\ρ k ≠ .nil/\LFit (ρ k)/\LFit (Gr.rk b ρ g)/\LFit (Gr.eA b ρ (k,g))/\0<=m/\m < 2 ^ 2000/\((Gr.rkT b ρ (.cons k g m r)).flatMap Lad.ps).length<=900)/\Gr.v8 b ρ ns g/\Gr.v8 b ρ ns r
def qG (K:Qn) (H:Hp) (d:Addr) (ρ:Str->Lad) (ns:List Str):Prop:=∃ us:List V,H d=some (.dK (List.zipWith (fun (n:Str) (u:V)=>((Sum.inr n:Key),u)) ns us))/\Bears K H Lad.enc us (ns.map ρ)
theorem VU {K:Qn} {H:Hp} {ρ:Str->Lad} {n:Str}:∀ {ns:List Str} {us:List V},Bears K H Lad.enc us (ns.map ρ)->n ∈ ns->∃ u,valV (List.zipWith (fun (n:Str) (u:V)=>((Sum.inr n:Key),u)) ns us) (Sum.inr n)=some u/\LA K H u (ρ n)
 | [],_,_,hn=>nomatch hn
 | m::r,us,h,hn=>by
  cases h with
  | @cons u tD _ _ h1 h2 =>
  by_cases e:m=n
  ·subst e;exact ⟨u,by simp [valV],h1⟩
  ·obtain ⟨v,h3,h4⟩:=VU h2 (by rcases Qv hn with z | z; exact absurd z.symm e; exact z);refine ⟨v,?_,h4⟩;rw [List.zipWith_cons_cons];unfold valV;rw [List.find?_cons_of_neg (by simp only [decide_eq_true_eq]; exact fun z=>e (Sum.inr.inj z))];exact h3
theorem qG.val {K:Qn} {H:Hp} {d:Addr} {n:Str} (h:qG K H d ρ ns) (hn:n ∈ ns):∃ u,DGet H d (.str n) (some u)/\LA K H u (ρ n):=by
 obtain ⟨us,h1,h2⟩:=h;obtain ⟨u,h3,h4⟩:=VU h2 hn;exact ⟨u,i5 h1 h3,h4⟩
theorem qG.sb {K:Qn} {H H':Hp} {d:Addr} {ρ:Str->Lad} {ns:List Str} {ps:List Addr} (h:qG K H d ρ ns) (s:SB ps H H') (hd:d ∉ ps):qG K H' d ρ ns:=by
 obtain ⟨us,h1,h2⟩:=h;exact ⟨us,s.keep _ _ h1 hd,h2.sb s Lad.ag⟩
theorem qG.dI {K:Qn} {H H':Hp} {d:Addr} (h:qG K H d ρ ns) (s:SB [] H H'):qG K H' d ρ ns:=h.sb s aL
def gW (b:Bk) (ρ:Str->Lad) (r:Ru):Lad:=Lad.oU (Gr.rk b ρ r.1) (Gr.rk b ρ r.2)
def uS (b:Bk) (ρ:Str->Lad) (ns:List Str) (r:Ru):Prop:=Gr.v8 b ρ ns r.1/\Gr.v8 b ρ ns r.2/\(Gr.rk b ρ r.1).deep<=24/\(Gr.rk b ρ r.2).deep<=24/\(Gr.rk b ρ r.1).parts<=390/\(Gr.rk b ρ r.2).parts<=390
def HX (K:Qn) (C:Addr):Sp:=fun vs H Q _=>∃ (v u:V) (d:Addr) (b:Bk) (ρ:Str->Lad) (ns:List Str) (r:Ru),vs=[v,.ref d,u]/\fJ K C H v b/\b.length<=1000/\qG K H d ρ ns/\Dp K H u (Ru.enc r)/\r.1.deep < 20/\r.2.deep < 20/\r.1.parts<=900/\r.2.parts<=900/\uS b ρ ns r/\∀ (x:V) (H':Hp),SB [] H H'->LA K H' x (gW b ρ r)->Q x H'
theorem HQ (b:Bk) (ρ:Str->Lad):gW b ρ (.nil,.nil)=Lad.cV:=by
 show Lad.oU (Gr.rk b ρ .nil) (Gr.rk b ρ .nil)=Lad.cV;have e:Gr.rk b ρ .nil=.nil:=by
  show Lad.ofPs (jn (Lad.lF []))=.nil;have:Lad.lF []=[]:=List.Perm.eq_nil (Lad.bC []);rw [this]; rfl
 rw [e];show Lad.bS .nil Lad.cV=Lad.cV;rw [Lad.j1];exact Lad.j0 Lad.fx
theorem Pk (b:Bk) (ρ:Str->Lad) (ns:List Str):uS b ρ ns (.nil,.nil):=by
 have e:Gr.rk b ρ .nil=.nil:=by
  show Lad.ofPs (jn (Lad.lF []))=.nil;have:Lad.lF []=[]:=List.Perm.eq_nil (Lad.bC []);rw [this]; rfl
 exact ⟨trivial,trivial,by show (Gr.rk b ρ .nil).deep<=24; rw [e]; decide,by show (Gr.rk b ρ .nil).deep<=24; rw [e]; decide,by show (Gr.rk b ρ .nil).parts<=390; rw [e]; decide,by show (Gr.rk b ρ .nil).parts<=390; rw [e]; decide⟩
structure OwnR (b:Bk) (ρ:Str->Lad):Prop where
 own:∀ k ∈ b,EndK b k.n->ρ k.n=Lad.jm Lad.cV (k.rs.map (gW b ρ))
 fit:∀ k ∈ b,EndK b k.n->∀ ns,(∀ n,n ∈ adj b k.n->n ∈ ns)->∀ r ∈ k.rs,uS b ρ ns r
 deep:∀ k ∈ b,EndK b k.n->∀ r ∈ k.rs,(gW b ρ r).deep<=45
structure EndO (b:Bk) (es:List Str):Prop where
 nd:es.Nodup
 len:es.length<=8
 mem:∀ n,n ∈ es ↔ n ∈ b.names/\EndK b n
 ord:∀ (i:Nat) (n:Str),es[i]?=some n->∀ k ∈ adj b n,k ∈ es.take i
def P2 (K:Qn) (C N:Addr):Sp:=fun vs H Q E=>∃ (v:V) (b:Bk),vs=[v]/\fJ K C H v b/\b.Ok/\∀ (l:Addr) (es:List Str) (H':Hp),SB [] H H'->H l=none->H' l=some (.lst (es.map V.str))->EndO b es->Q (.ref l) H'
def Qk (K:Qn) (C N:Addr):Sp:=fun vs H Q _=>∃ (v:V) (b:Bk) (ρ:Str->Lad),vs=[v]/\fJ K C H v b/\b.Ok/\OwnR b ρ/\∀ (d:Addr) (es:List Str) (H':Hp),SB [] H H'->H d=none->qG K H' d ρ es->EndO b es->Q (.ref d) H'
theorem qG.put {K:Qn} {H:Hp} {d:Addr} {n:Str} (h:qG K H d ρ ns) (hn:n ∉ ns) (hl:ns.length<=1000) (hx:LA K H x (ρ n)):∃ H',DPut H d (.str n) x H'/\SB [d] H H'/\qG K H' d ρ (ns++[n]):=by
 obtain ⟨us,h1,h2⟩:=h;have iV:=sizeLine_eq;have ul:us.length=ns.length:=by rw [h2.length,Ye]
 have t:=SB.jI (ps:=[d]) h1 (by simp) (.dK (putK (List.zipWith (fun (n:Str) (u:V)=>((Sum.inr n:Key),u)) ns us) (Sum.inr n) x));have e:putK (List.zipWith (fun (n:Str) (u:V)=>((Sum.inr n:Key),u)) ns us) (Sum.inr n) x=List.zipWith (fun (n:Str) (u:V)=>((Sum.inr n:Key),u)) (ns++[n]) (us++[x]):=by
  rw [FJ fun p hp z=>?_,List.zipWith_append (by omega)]
  ·rfl
  ·clear t h1 h2 ul
   induction ns generalizing us with
   | nil=>cases hp
   | cons m r ih =>
    cases us with
    | nil=>cases hp
    | cons u us =>
     rw [List.zipWith_cons_cons] at hp;rcases Qv hp with rfl | hp
     ·exact hn (List.mem_cons.mpr (.inl (Sum.inr.inj z).symm))
     ·exact ih (fun h=>hn (bX _ h)) (by simp at hl; omega) us hp
 refine ⟨_,DPut.k (k:=Sum.inr n) h1 (by rw [List.length_zipWith]; omega),t,us++[x],?_,?_⟩
 ·rw [Qt,e]
 ·rw [Yj];exact (h2.sb t Lad.ag).append (.cons (LA.sb hx t) .nil)
namespace Lad
theorem sF {n:Nat}:∀ {l:Lad},(∀ p ∈ l.ps,p.1.deep < n)->l.deep<=n
 | .nil,_=>Nat.zero_le _
 | .cons e m r,h=>by
  have h1:=h (e,m) (bF ..);have h2:=sF (l:=r) fun p hp=>h p (bX _ hp);have h1:e.deep < n:=h1;show max (1+e.deep) r.deep<=n;omega
theorem vh {e:Lad} (hm:1<=m):bH (.cons e 1 .nil) m=.cons e m .nil:=by
 unfold bH;rw [if_neg (by omega)];show Lad.cons e (1*m) .nil=_;rw [Int.one_mul]
end Lad
theorem Xi {K:Qn} {H:Hp}:∀ ks:List Str,Bears K H PyData.str (ks.map V.str) ks
 | []=>.nil
 | k::r=>.cons (.str k) (Xi r)
abbrev U2:R2:=fun x y H Q=>∃ (z:Str) (n:Nat),x=.str z/\y=.int (n:Int)/\n<=1000/\z.length<=1000/\Q (.str (Txt.mul z (n:Int))) H
theorem zdm (hn:n<=1000) (hz:z.length<=1000):MulOk z (n:Int):=by
 have hp:z.length*n<=1000*1000:=Nat.mul_le_mul hz hn;refine ⟨?_,fun h1 _=>?_,fun h1 _=>?_⟩
 ·rw [Qz (by omega),Qz (by omega)]; rfl
 ·have:(z.length:Int)<=(2 ^ 63-1) / (n:Int):=by
   refine (Int.le_ediv_iff_mul_le (by omega)).mpr ?_;have:((z.length*n:Nat):Int)<=1000000:=by omega
   rw [Int.natCast_mul] at this;omega
  omega
 ·rw [Int.toNat_natCast];unfold Builtin.Str.tooLong;rw [Qz];have:=sizeLine_eq;omega
theorem zet {X:Cx}:OpR X (binaryOp .Mult) U2:=by
 intro pins s σ H x y v u Q I rx ry h;obtain ⟨z,n,rfl,rfl,hn,hz,q⟩:=h;obtain ⟨t,rfl⟩:=rx;obtain ⟨t',rfl⟩:=ry;exact PySem.SB.mul (zdm hn hz) (fun t' tk=>⟨.str (Txt.mul z (n:Int)),H,I.tok _,⟨_,Ja⟩,q⟩)
theorem Wb (c:Nat):∀ (n:Nat) (b:Array Nat),((List.replicate n (#[c]:Array Nat)).foldl (·++·) b).toList=b.toList++List.replicate n c
 | 0,b=>by simp
 | n+1,b=>by
  rw [List.replicate_succ,List.foldl_cons,Wb c n];simp [List.replicate_succ]
theorem mul_one (c n:Nat):(Txt.mul ⟨#[c]⟩ (n:Int)).cps.toList=List.replicate n c:=by
 unfold Txt.mul;by_cases h1:(n:Int) < 1
 ·rw [if_pos h1];have:n=0:=by omega
  subst this; rfl
 ·rw [if_neg h1];by_cases h2:((n:Int) == 1 || (⟨#[c]⟩:Str).length == 0)=true
  ·rw [if_pos h2];have:n=1:=by
    have e:((⟨#[c]⟩:Str).length == 0)=false:=rfl;rw [e,Bool.or_false] at h2;have:=beq_iff_eq.mp h2;omega
   subst this; rfl
  ·rw [if_neg h2,Int.toNat_natCast];exact (Wb c n #[]).trans (by simp)
theorem jz.mul {c:Nat} (n:Nat) (h:97<=c/\c<=122):jz (Txt.mul ⟨#[c]⟩ (n:Int)) n:=by
 refine ⟨?_,fun x hx=>?_⟩
 ·rw [mul_one]; simp
 ·rw [mul_one] at hx;rw [List.eq_of_mem_replicate hx]; exact h
theorem KdAll.more {K:Qn} {H:Hp} {bad:List Addr} {R:Addr} (hR:H R=none):∀ {vs:List V} {b:Bk},KdAll K H bad vs b->KdAll K H (R::bad) vs b
 | _,_,.nil=>.nil
 | _,_,.cons a t=>by
  obtain ⟨t1,l,zs,e,h1,h2,h3,h4⟩:=a;refine .cons ⟨t1,l,zs,e,h1,h2,h3,fun z=>?_⟩ (KdAll.more hR t);rcases Qv z with z | z
  ·rw [z,hR] at h2; cases h2
  ·exact h4 z
theorem iU (n:Nat):(1:Int)<=2 ^ n:=by
 have:(0:Int) < 2 ^ n:=Int.pow_pos (by decide);omega
theorem jD {a b:Nat} (h:a<=b):(2:Int) ^ a<=2 ^ b:=by
 obtain ⟨k,rfl⟩:=Nat.le.dest h;rw [Int.pow_add];have h1:=iU a;have h2:=iU k;have:=Int.mul_le_mul_of_nonneg_left h2 (show (0:Int)<=2 ^ a by omega);omega
theorem xD (a:Nat):(2:Int) ^ (a+1)=2*2 ^ a:=by rw [Int.pow_succ]; omega
namespace Lad
theorem iB {C:Int} {w:Bool} (ho:o.Ok B) (hl:l.Ok C) (hB:1<=B) (hC:1<=C):(di w o l).Ok (B+C):=by
 unfold di;cases w with
 | false=>exact fF ho hl hB hC
 | true =>
  rw [if_pos rfl];cases o with
  | nil =>
   cases l with
   | nil=>trivial
   | cons e m r=>exact hl.mono (by omega)
  | cons e m r =>
   cases l with
   | nil=>exact ho.mono (by omega)
   | cons e2 m2 r2 =>
    show (Lad.cons (cL e (.cons e2 m2 r2)) 1 .nil).Ok _;exact ⟨fF ho.1 hl hB hC,by decide,by omega,trivial,by simp [ps]⟩
theorem gz (w:Bool) (o l:Lad):(di w o l).parts<=o.parts+l.parts:=by
 unfold di;cases w with
 | false=>exact gD o l
 | true =>
  rw [if_pos rfl];cases o with
  | nil=>cases l <;> simp [spd,parts]
  | cons e m r =>
   cases l with
   | nil=>show (Lad.cons e m r).parts<=_; omega
   | cons e2 m2 r2 =>
    have:=gD e (.cons e2 m2 r2);show 1+(cL e (.cons e2 m2 r2)).parts+0<=1+e.parts+r.parts+_;omega
theorem jQ {w:Bool} (ho:o.deep<=n) (hl:l.deep<=n):(di w o l).deep<=n+1:=by
 unfold di;cases w with
 | false=>exact Nat.le_succ_of_le (iG ho hl)
 | true =>
  rw [if_pos rfl];cases o with
  | nil=>cases l with
   | nil=>exact Nat.zero_le _
   | cons e m r=>exact Nat.le_succ_of_le hl
  | cons e m r =>
   cases l with
   | nil=>exact Nat.le_succ_of_le ho
   | cons e2 m2 r2 =>
    have he:e.deep<=n:=by
     have:max (1+e.deep) r.deep<=n:=ho;omega
    have:=iG he hl;show max (1+(cL e (.cons e2 m2 r2)).deep) 0<=n+1;omega
theorem dY (h:∀ l ∈ ls,l.Ok B) (hB:0<=B) (hD:B<=D) (hs:∀ x,(ls.map fun l=>S l x).sum < D):(aT ls).Ok D:=by
 have hd:(jn (lF (ls.flatMap ps))).Pairwise (fun p q=>q.1.lt p.1=true):=vC (sE _);show (ofPs (jn (lF (ls.flatMap ps)))).Ok D;rw [fe];refine ⟨fun p hp=>?_,hd⟩;have Ga:∀ (bs:List (Lad × Int)),bs.Pairwise (fun p q=>q.1.lt p.1=true)->∀ p ∈ bs,aB bs p.1=p.2:=by
  intro bs
  induction bs with
  | nil=>intro _ p hp; cases hp
  | cons q r ih =>
   intro RM p hp;obtain ⟨e,m⟩:=q;obtain ⟨h1,h2⟩:=List.pairwise_cons.mp RM;rw [ax];rcases Qv hp with hp | hp
   ·subst hp;rw [if_pos rfl,dz fun q hq=>c6 (h1 q hq)];omega
   ·rw [if_neg (fun z=>c6 (h1 p hp) z.symm),ih h2 p hp];omega
 have e1:aB (jn (lF (ls.flatMap ps))) p.1=p.2:=Ga _ hd p hp;have e2:p.2=(ls.map fun l=>S l p.1).sum:=by
  rw [<- e1,<- Gr.qF];show _=aB (aT ls).ps p.1;unfold aT;rw [a9]
 obtain ⟨q,hq,eq⟩:=BL _ p hp;have qd:=(bC _).mem_iff.mp hq;obtain ⟨l,hl,Ow⟩:=List.mem_flatMap.mp qd;have qo:=(aS.mp (h l hl)).1 q Ow;have pos:∀ (ks:List Lad),(∀ l ∈ ks,l.Ok B)->0<=(ks.map fun l=>S l p.1).sum/\∀ l ∈ ks,S l p.1<=(ks.map fun l=>S l p.1).sum:=by
  intro ks
  induction ks with
  | nil=>intro _; exact ⟨Kw _,fun l hl=>nomatch hl⟩
  | cons k r ih =>
   intro hk;obtain ⟨i1,i2⟩:=ih fun l hl=>hk l (bX _ hl);have n1:=bM (hk k (bF ..)) p.1;rw [Ky,List.sum_cons];refine ⟨by omega,fun l hl=>?_⟩;rcases Qv hl with rfl | hl
   ·omega
   ·have:=i2 l hl; omega
 have s1:=(pos ls h).2 l hl;have s2:S l p.1=q.2:=by rw [<- eq]; exact hH (h l hl) Ow
 have s3:=hs p.1;refine ⟨?_,by omega,by omega⟩;rw [<- eq]; exact qo.1.mono hD
theorem dB (ls:List Lad):(aT ls).parts<=(ls.map parts).sum:=by
 have e:∀ ls:List Lad,tot (ls.flatMap ps)=(ls.map parts).sum:=by
  intro ls
  induction ls with
  | nil=>rfl
  | cons l r ih =>
   rw [List.flatMap_cons,aU,ih,Ky,List.sum_cons];have:tot l.ps=l.parts:=by
    have:=aK l.ps;rw [aD] at this; exact this.symm
   rw [this]
 show (ofPs (jn (lF (ls.flatMap ps)))).parts<=_;rw [aK,<- e];exact Yb (pF _) (Nat.le_of_eq (jE (bC _)))
theorem eQ (h:∀ l ∈ ls,l.deep<=n):(aT ls).deep<=n:=by
 refine sF fun p hp=>?_;unfold aT at hp;rw [a9] at hp;obtain ⟨q,hq,e⟩:=BL _ p hp;obtain ⟨l,hl,Ow⟩:=List.mem_flatMap.mp ((bC _).mem_iff.mp hq);have:=l.aA q Ow;have:=h l hl;rw [<- e]; omega
end Lad
namespace Gr
variable {b:Bk} {ρ σ:Str->Lad} {C:Int} {ns:List Str}
theorem fR:rk b ρ .nil=.nil:=by
 show Lad.ofPs (jn (Lad.lF []))=.nil;have:Lad.lF []=[]:=List.Perm.eq_nil (Lad.bC []);rw [this]; rfl
theorem kH:∀ {g:Gr},(∀ x ∈ g.within,ρ x.1.1=σ x.1.1)->rkT b ρ g=rkT b σ g
 | .nil,_=>rfl
 | .cons k g m r,h=>by
  have e1:=h ((k,g),m) (bF ..);have e2:=kH (g:=g) fun x hx=>h x (bX _ (i8 _ hx));have e3:=kH (g:=r) fun x hx=>h x (bX _ (mW _ hx));show Lad.bH (di (b.wide k) (ρ k) (Lad.aT (rkT b ρ g))) m::rkT b ρ r=_::rkT b σ r;rw [e2,e3,show ρ k=σ k from e1]
theorem rL {g:Gr} (h:∀ x ∈ g.within,ρ x.1.1=σ x.1.1):rk b ρ g=rk b σ g:=by unfold rk; rw [kH h]
theorem dU {P D:Nat} (hk:∀ n ∈ ns,(ρ n).parts<=P/\(ρ n).deep<=D):∀ {g:Gr},Named ns g->((rkT b ρ g).map Lad.parts).sum<=P*g.parts/\∀ l ∈ rkT b ρ g,l.deep<=D+g.deep
 | .nil,_=>And.intro (Nat.zero_le _) (fun l hl=>nomatch hl)
 | .cons k g m r,h=>by
  have qi:k ∈ ns:=h ((k,g),m) (bF ..);obtain ⟨g1,g2⟩:=dU hk (g:=g) fun x hx=>h x (bX _ (i8 _ hx));obtain ⟨r1,r2⟩:=dU hk (g:=r) fun x hx=>h x (bX _ (mW _ hx));obtain ⟨k1,k2⟩:=hk k qi;have ip:(Lad.aT (rkT b ρ g)).parts<=P*g.parts:=Yb (Lad.dB _) g1;have DT:(Lad.aT (rkT b ρ g)).deep<=D+g.deep:=Lad.eQ g2;have lp:=Lad.gz (b.wide k) (ρ k) (Lad.aT (rkT b ρ g));have tp:=Lad.kj (di (b.wide k) (ρ k) (Lad.aT (rkT b ρ g))) m;have ld:=Lad.jQ (w:=b.wide k) (o:=ρ k) (l:=Lad.aT (rkT b ρ g)) (n:=D+g.deep) (by omega) DT;have e1:(Gr.cons k g m r).parts=1+g.parts+r.parts:=rfl;have e2:(Gr.cons k g m r).deep=max (1+g.deep) r.deep:=rfl;refine ⟨?_,fun l hl=>?_⟩
  ·show (Lad.bH (di (b.wide k) (ρ k) (Lad.aT (rkT b ρ g))) m).parts+((rkT b ρ r).map Lad.parts).sum<=_;rw [e1,Nat.mul_add,Nat.mul_add,Nat.mul_one];omega
  ·rw [e2];rcases Qv hl with rfl | hl
   ·have:=Lad.gq (n:=D+g.deep+1) m ld;omega
   ·have:=r2 l hl; omega
end Gr
theorem zT {rs:List Ru} (hr:r ∈ rs) {x:Tr × Int} (hx:x ∈ Ru.within r):x.1.1 ∈ nv rs:=List.mem_flatMap.mpr ⟨r,hr,Ku ⟨x,hx,rfl⟩⟩
theorem W6 {σ:Str->Lad} (h:∀ x ∈ Ru.within r,ρ x.1.1=σ x.1.1):gW b ρ r=gW b σ r:=by
 unfold gW;rw [Gr.rL fun x hx=>h x (i8 _ hx),Gr.rL fun x hx=>h x (mW _ hx)]
def Bk.rules (b:Bk) (n:Str):List Ru:=match b.get n with
 | some k=>k.rs
 | none=>[]
def Ih (b:Bk) (k n:Str):Prop:=k ∈ adj b n/\EndK b n
theorem zcv (b:Bk):WellFounded (Ih b):=by
 have h1:∀ n,EndK b n->Acc (Ih b) n:=fun n h=>by
  induction h with
  | mk _ ih=>exact ⟨_,fun y hy=>ih y hy.1⟩
 exact ⟨fun n=>⟨n,fun y hy=>h1 y (hy.2.next hy.1)⟩⟩
open Classical in
noncomputable def IT (b:Bk) (n:Str) (rec:∀ k,Ih b k n->Lad):Lad:=Lad.jm Lad.cV ((b.rules n).map (gW b fun k=>if h:Ih b k n then rec k h else Lad.cV))
noncomputable def bT (b:Bk):Str->Lad:=(zcv b).fix (IT b)
theorem Ip (ok:b.Ok) {k:Kd} (hk:k ∈ b) (he:EndK b k.n):bT b k.n=Lad.jm Lad.cV (k.rs.map (gW b (bT b))):=by
 unfold bT;rw [WellFounded.fix_eq];unfold IT;have er:b.rules k.n=k.rs:=by unfold Bk.rules; rw [Bk.fD ok.nd hk]
 rw [er]
 congr 1
 refine List.map_congr_left fun r hr=>W6 fun x hx=>?_;have hl:Ih b x.1.1 k.n:=⟨by rw [De ok hk]; exact zT hr hx,he⟩;rw [dif_pos hl]
theorem Gr.v8.mono {b:Bk} {ρ:Str->Lad} {ns ms:List Str} (h:∀ n ∈ ns,n ∈ ms):∀ {g:Gr},Gr.v8 b ρ ns g->Gr.v8 b ρ ms g
 | .nil,_=>trivial
 | .cons k g m r,hf=>by
  obtain ⟨⟨h1,h2,h3,h4,h5,h6,h7,h8,h9⟩,hg,hr⟩:=hf;exact ⟨⟨h _ h1,h2,h3,h4,h5,h6,h7,h8,h9⟩,Gr.v8.mono h hg,Gr.v8.mono h hr⟩
theorem P4 {α:Type} {p q:α->Bool}:∀ {l:List α},(∀ x ∈ l,p x=true->q x=true)->(∃ x ∈ l,q x=true/\p x=false)->(l.filter p).length < (l.filter q).length
 | [],_,⟨x,hx,_⟩=>nomatch hx
 | a::r,h,⟨x,hx,hq,hp⟩=>by
  have hr:∀ x ∈ r,p x=true->q x=true:=fun y hy=>h y (bX _ hy);have le:∀ l:List α,(∀ x ∈ l,p x=true->q x=true)->(l.filter p).length<=(l.filter q).length:=by
   intro l
   induction l with
   | nil=>intro _; exact Yc _
   | cons c s ih =>
    intro hc;have:=ih fun y hy=>hc y (bX _ hy);cases hpc:p c with
    | true =>
     rw [List.filter_cons_of_pos hpc,List.filter_cons_of_pos (hc c (bF ..) hpc)];simpa using this
    | false =>
     rw [List.filter_cons_of_neg (by simp [hpc])];cases hqc:q c with
     | true=>rw [List.filter_cons_of_pos hqc,Yk]; omega
     | false=>rw [List.filter_cons_of_neg (by simp [hqc])]; exact this
  rcases Qv hx with rfl | hx
  ·rw [List.filter_cons_of_neg (by simp [hp]),List.filter_cons_of_pos hq,Yk];have:=le r hr;omega
  ·have ih:=P4 hr ⟨x,hx,hq,hp⟩;cases hpc:p a with
   | true =>
    rw [List.filter_cons_of_pos hpc,List.filter_cons_of_pos (h a (bF ..) hpc)];simpa using ih
   | false =>
    rw [List.filter_cons_of_neg (by simp [hpc])];cases hqc:q a with
    | true=>rw [List.filter_cons_of_pos hqc,Yk]; omega
    | false=>rw [List.filter_cons_of_neg (by simp [hqc])]; exact ih
open Classical in
noncomputable def Bz (b:Bk) (n:Str):Nat:=(b.names.filter fun k=>decide (Rch b n k)).length
theorem Pq (ok:b.Ok) {n k:Str} (he:EndK b n) (hk:k ∈ adj b n):Bz b k < Bz b n:=by
 refine P4 (fun x _ hx=>?_) ⟨k,Df ok hk,?_,?_⟩
 ·simp only [decide_eq_true_eq] at hx ⊢;exact Rch.cons hk hx
 ·simp only [decide_eq_true_eq]; exact .one hk
 ·simp only [decide_eq_false_iff_not]; exact (he.next hk).yg
theorem Wm {n:Str} (he:EndK b n) (hn:n ∈ b.names):Bz b n < b.length:=by
 have h:=P4 (p:=fun k=>@decide (Rch b n k) (Classical.propDecidable _)) (q:=fun _=>true) (l:=b.names) (fun _ _ _=>rfl) ⟨n,hn,rfl,by simp only [decide_eq_false_iff_not]; exact he.yg⟩;have e:(b.names.filter fun _=>true).length=b.length:=by rw [List.filter_eq_self.mpr (fun _ _=>rfl),Ye]
 rw [e] at h;exact h
def Pm (m:Nat):Nat->Nat
 | 0=>2
 | c+1=>m*Pm m c+2
theorem VC (m:Nat):∀ c,2<=Pm m c
 | 0=>Yc _
 | c+1=>Nat.le_add_left _ _
theorem zcg {g k:Gr} {C:Int} (hg:(Gr.rk b ρ g).Ok B) (hk:(Gr.rk b ρ k).Ok C) (hB:1<=B) (hC:1<=C) (hj:(Gr.rk b ρ (Gr.tidy (g.ps++k.ps))).Ok D):(Gr.rk b ρ (Gr.tidy (g.ps++k.ps)))=(Gr.rk b ρ g).bS (Gr.rk b ρ k):=by
 refine Lad.ext hj (Lad.gX hg hk hB hC) fun x=>?_;rw [Lad.cZ,Gr.qD,Gr.qD,Gr.qD,<- QC];refine NT _ _ _ _ (Yc _) fun t=>?_;unfold Gr.tidy;rw [Gr.a9,Ph]
def zk (ns:List Str) (us:List V):List (Key × V):=List.zipWith (fun (n:Str) (u:V)=>((Sum.inr n:Key),u)) ns us
theorem HW:∀ {ns:List Str} {us:List V},us.length=ns.length->(zk ns us).map (·.1)=ns.map Sum.inr
 | [],[],_=>rfl
 | [],_::_,h=>by simp at h
 | _::_,[],h=>by simp at h
 | n::r,u::us,h=>by
  have:=HW (ns:=r) (us:=us) (by simpa using h);show Sum.inr n::(zk r us).map (·.1)=_;rw [this]; rfl
theorem zir (h:us.length=ns.length):(zk ns us).length=ns.length:=by
 have:=congrArg List.length (HW h);simpa using this
theorem W8:∀ {aQ:List (Key × V)},(aQ.map (·.1)).Nodup->∀ p ∈ aQ,valV aQ p.1=some p.2
 | [],_,p,hp=>nomatch hp
 | (k,v)::r,h,p,hp=>by
  rw [Ky] at h;obtain ⟨h1,h2⟩:=List.nodup_cons.mp h;rcases Qv hp with rfl | hp
  ·exact valV_pos rfl
  ·rw [valV_neg fun z=>h1 (by rw [z]; exact Ku ⟨p,hp,Ja⟩)];exact W8 h2 p hp
namespace Lad
def R (l:Lad):Prop:=∃ B:Int,1<=B/\l.Ok B
variable {a b c d l k o:Lad} {m n:Int} {w:Bool}
theorem R.nil:R .nil:=⟨1,by decide,trivial⟩
theorem R.bS (h:R l) (g:R k):R (l.bS k):=by
 obtain ⟨B,hB,h⟩:=h;obtain ⟨C,hC,g⟩:=g;exact ⟨B+C,by omega,gX h g hB hC⟩
theorem R.cL (h:R l) (g:R k):R (l.cL k):=by
 obtain ⟨B,hB,h⟩:=h;obtain ⟨C,hC,g⟩:=g;exact ⟨B+C,by omega,fF h g hB hC⟩
theorem R.bH (h:R l) (hm:0<=m):R (l.bH m):=by
 obtain ⟨B,hB,h⟩:=h;have:=Int.mul_nonneg (show 0<=B by omega) hm;exact ⟨B*m+B,by omega,gQ h hm⟩
theorem R.oU (h:R l) (g:R k):R (l.oU k):=by
 obtain ⟨B,hB,h⟩:=h;obtain ⟨C,hC,g⟩:=g;exact ⟨B+(C+2),by omega,qC h g hB hC⟩
theorem R.di (h:R o) (g:R l):R (di w o l):=by
 obtain ⟨B,hB,h⟩:=h;obtain ⟨C,hC,g⟩:=g;exact ⟨B+C,by omega,iB h g hB hC⟩
theorem R.cV:R cV:=⟨2,by decide,fx⟩
theorem R.ext (h:R l) (g:R k) (e:∀ x,S l x=S k x):l=k:=by
 obtain ⟨B,hB,h⟩:=h;obtain ⟨C,hC,g⟩:=g;exact Lad.ext h g e
theorem R.lt_iff (h:R l) (g:R k):l.lt k=true ↔ zy l k:=by
 obtain ⟨B,hB,h⟩:=h;obtain ⟨C,hC,g⟩:=g;exact Lad.lt_iff h g
theorem R.common:∀ {ls:List Lad},(∀ l ∈ ls,R l)->∃ B:Int,1<=B/\∀ l ∈ ls,l.Ok B
 | [],_=>⟨1,by decide,fun l h=>nomatch h⟩
 | x::r,h=>by
  obtain ⟨B,hB,hx⟩:=h x (bF ..);obtain ⟨C,hC,hr⟩:=R.common (ls:=r) fun l hl=>h l (bX _ hl);refine ⟨B+C,by omega,fun l hl=>?_⟩;rcases Qv hl with e | e
  ·rw [e]; exact hx.mono (by omega)
  ·exact (hr l e).mono (by omega)
theorem lQ {B:Int} (hB:0<=B) (x:Lad):∀ {ls:List Lad},(∀ l ∈ ls,l.Ok B)->(ls.map fun l=>S l x).sum<=ls.length*B
 | [],_=>by simp
 | y::r,h=>by
  have h1:=ug (h y (bF ..)) hB x;have h2:=lQ hB x (ls:=r) fun l hl=>h l (bX _ hl);rw [Ky,List.sum_cons,Yk];have:((r.length+1:Nat):Int)*B=r.length*B+B:=by rw [Int.natCast_add,Int.add_mul]; simp
  omega
theorem R.aT {ls:List Lad} (h:∀ l ∈ ls,R l):R (aT ls):=by
 obtain ⟨B,hB,hb⟩:=R.common h;have hl:(0:Int)<=ls.length*B:=Int.mul_nonneg (Int.natCast_nonneg _) (by omega);exact ⟨ls.length*B+B+1,by omega,dY hb (by omega) (by omega) fun x=>by have:=lQ (by omega) x hb; omega⟩
theorem oM (hl:R l) (h:∀ k ∈ ls,R k):Lad.aT (l::ls)=l.bS (Lad.aT ls):=by
 refine R.ext (R.aT fun k hk=>?_) (hl.bS (R.aT h)) fun x=>?_
 ·rcases Qv hk with e | e
  ·rw [e]; exact hl
  ·exact h k e
 ·rw [Gr.qF,cZ,Gr.qF,Ky,List.sum_cons]
def Le (a b:Lad):Prop:=b.lt a=false
theorem Le.refl:Le a a:=lt_irrefl a
theorem Le.trans (h:Le a b) (g:Le b c):Le a c:=le_trans h g
theorem Le.of_lt (h:a.lt b=true):Le a b:=le_of_lt h
theorem Le.nil:Le .nil a:=bR a
theorem Le.cases (h:Le a b):a=b\/a.lt b=true:=by
 by_cases e:a=b
 ·exact .inl e
 ·exact .inr (eI b a (fun z=>e z.symm) h)
theorem IZ (g:a.lt b=true) (h:Le b c):a.lt c=true:=by
 rcases h.cases with e | e
 ·rw [<- e]; exact g
 ·exact lt_trans _ _ _ g e
theorem qx (ra:R a) (rb:R b) (rc:R c) (h:b.lt c=true):(a.bS b).lt (a.bS c)=true:=by
 obtain ⟨A,hA,ra⟩:=ra;obtain ⟨B,hB,rb⟩:=rb;obtain ⟨C,hC,rc⟩:=rc;exact zh ra rb rc hA hB hC h
theorem Le.bS (ra:R a) (rb:R b) (rc:R c) (rd:R d) (h:Le a b) (g:Le c d):Le (a.bS c) (b.bS d):=by
 refine Le.trans (b:=a.bS d) ?_ ?_
 ·rcases g.cases with e | e
  ·rw [e]; exact Le.refl
  ·exact Le.of_lt (qx ra rc rd e)
 ·rw [j1 a d,j1 b d];rcases h.cases with e | e
  ·rw [e]; exact Le.refl
  ·exact Le.of_lt (qx rd ra rb e)
theorem Ds (ra:R a) (rb:R b) (hm:1<=m) (h:a.lt b=true):(a.bH m).lt (b.bH m)=true:=by
 obtain ⟨x,h1,h2⟩:=(ra.lt_iff rb).mp h;refine ((ra.bH (by omega)).lt_iff (rb.bH (by omega))).mpr ⟨x,?_,fun y hy=>?_⟩
 ·rw [hE,hE]; exact Int.mul_lt_mul_of_pos_right h1 (by omega)
 ·rw [hE,hE,h2 y hy]
theorem qZ:bH l 0=.nil:=by simp [bH]
theorem Le.bH (ra:R a) (rb:R b) (hm:0<=m) (h:Le a b):Le (a.bH m) (b.bH m):=by
 by_cases m0:m=0
 ·rw [m0,qZ]; exact Le.nil
 rcases h.cases with e | e
 ·rw [e]; exact Le.refl
 ·exact Le.of_lt (Ds ra rb (by omega) e)
theorem um (ra:R a) (rb:R b):Le a (a.bS b):=by
 obtain ⟨A,hA,ra⟩:=ra;obtain ⟨B,hB,rb⟩:=rb;exact Le.trans (zi ra rb hA hB) (uQ ra rb hA hB)
theorem Dt (r:R l) (h0:0<=m) (h:m<=n):Le (l.bH m) (l.bH n):=by
 have e:l.bH n=(l.bH m).bS (l.bH (n-m)):=by
  refine R.ext (r.bH (by omega)) ((r.bH h0).bS (r.bH (by omega))) fun x=>?_;rw [cZ,hE,hE,hE,Int.mul_sub]; omega
 rw [e];exact um (r.bH h0) (r.bH (by omega))
theorem jv (ra:R a) (rb:R b) (rc:R c) (h:b.lt c=true):(a.cL b).lt (a.cL c)=true:=by
 obtain ⟨A,hA,ra⟩:=ra;obtain ⟨B,hB,rb⟩:=rb;obtain ⟨C,hC,rc⟩:=rc;exact sI ra rb rc hA hB hC h
theorem AQ (ra:R a) (rb:R b):Le a (a.cL b):=by
 obtain ⟨A,hA,ra⟩:=ra;obtain ⟨B,hB,rb⟩:=rb;exact zi ra rb hA hB
theorem R.exp {e:Lad} {m:Int} {r:Lad} (h:R (.cons e m r)):R e:=by
 obtain ⟨B,hB,h⟩:=h;exact ⟨B,hB,h.1⟩
theorem kN (re:R a) (rl:R l) (h:l ≠ .nil):a.lt (a.cL l)=true:=by
 have h1:=jv re R.nil rl (nil_le l h)
 rwa [dj] at h1
theorem top_lt {e e2:Lad} {m m2:Int} {r r2:Lad} (h:e.lt e2=true):Lad.lt (.cons e m r) (.cons e2 m2 r2)=true:=by
 rw [dV,if_neg (c6 h)]; exact h
theorem iu {e:Lad} {m:Int} {r:Lad} (h:l ≠ .nil):spd (.cons e m r) l=.cons (e.cL l) 1 .nil:=by
 cases l with
 | nil=>exact absurd rfl h
 | cons _ _ _=>rfl
theorem DN (ro:R o) (rl:R l) (rk:R k) (ho:o ≠ .nil) (h:l.lt k=true):(di w o l).lt (di w o k)=true:=by
 cases w with
 | false=>exact jv ro rl rk h
 | true =>
  show (spd o l).lt (spd o k)=true;have hk:k ≠ .nil:=fun z=>by rw [z,bR] at h; cases h
  cases o with
  | nil=>exact absurd rfl ho
  | cons e m r =>
   rw [iu hk];by_cases hl:l=.nil
   ·rw [hl];show Lad.lt (.cons e m r) _=true;exact top_lt (kN ro.exp rk hk)
   ·rw [iu hl];exact top_lt (jv ro.exp rl rk h)
theorem AO (ro:R o) (rl:R l) (ho:o ≠ .nil):Le o (di w o l):=by
 cases w with
 | false=>exact AQ ro rl
 | true =>
  show Le o (spd o l);cases o with
  | nil=>exact absurd rfl ho
  | cons e m r =>
   by_cases hl:l=.nil
   ·rw [hl]; exact Le.refl
   ·rw [iu hl]; exact Le.of_lt (top_lt (kN ro.exp rl hl))
theorem zv (rl:R l) (rk:R k) (hn:0<=n):(l.bS (k.bH n)).lt (l.oU k)=true:=by
 obtain ⟨B,hB,rl⟩:=rl;obtain ⟨C,hC,rk⟩:=rk;exact EJ rl rk hB hC hn
theorem kY (rl:R l) (rk:R k) (ra:R a) (h:a.lt (l.oU k)=true) (hn:Bw k a<=n):Le a (l.bS (k.bH n)):=by
 obtain ⟨A,hA,X0⟩:=ra;have e0:=mN (k:=k) X0;have Q1:=rl;have Q3:=rk;obtain ⟨B,hB,rl⟩:=rl;obtain ⟨C,hC,rk⟩:=rk;have h1:Le a (l.bS (k.bH (Bw k a))):=xA rl rk X0 hB hC h;exact h1.trans (Le.bS Q1 Q1 (Q3.bH e0) (Q3.bH (by omega)) Le.refl (Dt Q3 e0 hn))
theorem Dk (rl:R l) (h:l ≠ .nil):Le cV l:=by
 cases l with
 | nil=>exact absurd rfl h
 | cons e m r =>
  show Lad.lt (.cons e m r) (.cons .nil 1 .nil)=false;obtain ⟨B,hB,h1,h2,_⟩:=rl;rw [dV]
  split
  ·split
   ·exact bR _
   ·exact Qz (by omega)
  ·exact bR _
end Lad
namespace Gr
variable {b:Bk} {ρ σ:Str->Lad} {C:Int}
def RN (ρ:Str->Lad) (g:Gr):Prop:=∀ x ∈ g.within,Lad.R (ρ x.1.1)/\ρ x.1.1 ≠ .nil
theorem RN.cons {k:Str} {g r:Gr} {m:Int} (h:RN ρ (.cons k g m r)):(Lad.R (ρ k)/\ρ k ≠ .nil)/\RN ρ g/\RN ρ r :=
 ⟨h ((k,g),m) (bF ..),fun x hx=>h x (bX _ (i8 _ hx)),fun x hx=>h x (bX _ (mW _ hx))⟩
theorem vr:∀ {g:Gr},g.Ok C->RN ρ g->∀ l ∈ rkT b ρ g,Lad.R l
 | .nil,_,_,l,hl=>nomatch hl
 | .cons k g m r,ho,h,l,hl=>by
  obtain ⟨h1,h2,h3⟩:=h.cons;obtain ⟨o1,o2,o3,o4,o5,_⟩:=ho;rcases Qv hl with e | e
  ·rw [e]; exact (h1.1.di (Lad.R.aT (vr o2 h2))).bH (by omega)
  ·exact vr o5 h3 l e
theorem lj {g:Gr} (ho:g.Ok C) (h:RN ρ g):Lad.R (rk b ρ g):=Lad.R.aT (vr ho h)
theorem vq {k:Str} {g r:Gr} (ho:(Gr.cons k g m r).Ok C) (h:RN ρ (.cons k g m r)):rk b ρ (.cons k g m r)=(Lad.bH (eA b ρ (k,g)) m).bS (rk b ρ r):=by
 obtain ⟨h1,h2,h3⟩:=h.cons;obtain ⟨o1,o2,o3,o4,o5,_⟩:=ho;exact Lad.oM ((h1.1.di (lj o2 h2)).bH (by omega)) (vr o5 h3)
theorem AA {g:Gr} (hm:0<=m) (hg:Lad.R (rk b ρ g)) (hk:Lad.R (rk b ρ (gS g m))):rk b ρ (gS g m)=Lad.bH (rk b ρ g) m:=by
 refine Lad.R.ext hk (hg.bH hm) fun x=>?_;rw [qD,Lad.hE,qD];by_cases h0:m=0
 ·subst h0; simp [gS,Gr.ps,wsum]
 ·rw [gS,if_neg h0,a9,qT]
theorem AB {g k:Gr} (hg:Lad.R (rk b ρ g)) (hk:Lad.R (rk b ρ k)) (hj:Lad.R (rk b ρ (kf g k))):rk b ρ (kf g k)=(rk b ρ g).bS (rk b ρ k):=by
 obtain ⟨B,hB,hg⟩:=hg;obtain ⟨C,hC,hk⟩:=hk;obtain ⟨D,hD,hj⟩:=hj;exact zcg hg hk hB hC hj
theorem RN.named {g:Gr} (h:∀ n ∈ ns,Lad.R (ρ n)/\ρ n ≠ .nil) (hn:Named ns g):RN ρ g:=fun x hx=>h _ (hn x hx)
theorem yc {n:Int} (rJ:dC r) (hn:0<=n) (h:∀ n ∈ ns,Lad.R (ρ n)/\ρ n ≠ .nil) (h1:Named ns r.1) (h2:Named ns r.2):rk b ρ (hO r n)=(rk b ρ r.1).bS (Lad.bH (rk b ρ r.2) n):=by
 obtain ⟨o1,o2,_⟩:=rJ;have r1:=lj (b:=b) o1 (RN.named h h1);have r2:=lj (b:=b) o2 (RN.named h h2);have ot:=gQ o2 (by decide) hn;have nt:=iQ h2 n;have rt:=lj (b:=b) ot (RN.named h nt);have z:=Int.mul_nonneg (show (0:Int)<=1000000001 by decide) hn;have rj:=lj (b:=b) (gT o1 ot (by decide) (by omega)) (RN.named h (dM h1 nt));unfold hO;rw [AB r1 rt rj,AA hn r2 rt]
end Gr
theorem zj0 (rJ:dC r) (h:∀ n ∈ ns,Lad.R (ρ n)/\ρ n ≠ .nil) (h1:Gr.Named ns r.1) (h2:Gr.Named ns r.2):Lad.R (gW b ρ r):=(Gr.lj rJ.1 (Gr.RN.named h h1)).oU (Gr.lj rJ.2.1 (Gr.RN.named h h2))
def OT (b:Bk) (ρ:Str->Lad):Prop:=∀ k ∈ b,∀ r ∈ k.rs,(ρ k.n).lt (gW b ρ r)=false
def RB (b:Bk) (ρ:Str->Lad):Prop:=∀ n ∈ b.names,Lad.R (ρ n)/\ρ n ≠ .nil
theorem Bk.Ok.named (ok:b.Ok) {k:Kd} (hk:k ∈ b) {r:Ru} (hr:r ∈ k.rs):dC r/\Gr.Named b.names r.1/\Gr.Named b.names r.2:=by
 obtain ⟨h1,h2⟩:=(ok.kd k hk).2.2 r hr;exact ⟨h1,fun x hx=>h2 x (i8 _ hx),fun x hx=>h2 x (mW _ hx)⟩
theorem zev (ok:b.Ok) {n:Str} (he:EndK b n):n ∈ b.names->Lad.R (bT b n)/\bT b n ≠ .nil:=by
 induction he with
 | mk h ih =>
  rename_i n;intro hn;obtain ⟨k,eg⟩:=Bk.dW hn;obtain ⟨hk,rfl⟩:=Bk.get_some eg;have eq:=Ip ok hk (.mk h);have jW:=De ok hk;have ne:bT b k.n ≠ .nil:=fun z=>by
   have:=Lad.iR (k.rs.map (gW b (bT b))) Lad.cV Lad.cV (bF ..);rw [<- eq,z] at this;rw [Lad.lt_nil_cons] at this; cases this
  refine ⟨?_,ne⟩;rw [eq];rcases Qv (Lad.gy (k.rs.map (gW b (bT b))) Lad.cV) with e | e
  ·rw [e]; exact Lad.R.cV
  ·obtain ⟨r,hr,e⟩:=Qx e;rw [<- e];have nm:Gr.Named (adj b k.n) r.1/\Gr.Named (adj b k.n) r.2:=⟨fun x hx=>by rw [jW]; exact zT hr (i8 _ hx),fun x hx=>by rw [jW]; exact zT hr (mW _ hx)⟩;exact zj0 (ok.named hk hr).1 (fun n hn=>ih n hn (Df ok hn)) nm.1 nm.2
theorem OT.own (ok:b.Ok) (h:∀ n ∈ b.names,EndK b n/\ρ n=bT b n):OT b ρ:=fun k hk r hr=>by
 have hn:k.n ∈ b.names:=Ku ⟨k,hk,rfl⟩;obtain ⟨_,n1,n2⟩:=ok.named hk hr;rw [(h _ hn).2,Ip ok hk (h _ hn).1];refine Lad.iR _ _ _ (bX _ (Ku ⟨r,hr,?_⟩));refine W6 fun x hx=>?_;rcases Qw hx with e | e
 ·exact (h _ (n1 x e)).2.symm
 ·exact (h _ (n2 x e)).2.symm
namespace Gr
variable {b:Bk} {ρ σ:Str->Lad} {C:Int} {ns:List Str}
theorem jM {x:Nat} (hk:∀ n ∈ ns,(ρ n).Ok (2 ^ x)):∀ {g:Gr},Named ns g->g.Ok (2 ^ 119)->(∀ l ∈ rkT b ρ g,l.Ok (2 ^ (x+121*g.parts)))/\∀ y,((rkT b ρ g).map fun l=>Lad.S l y).sum < 2 ^ (x+121*g.parts)
 | .nil,_,_=>And.intro (fun l hl=>nomatch hl) (fun y=>by
  show (0:Int) < _;have:=iU (x+121*Gr.nil.parts); omega)
 | .cons k g m r,h,ho=>by
  obtain ⟨_,hg,Ba,si,hr,_⟩:=ho;have qi:k ∈ ns:=h ((k,g),m) (bF ..);obtain ⟨g1,g2⟩:=jM hk (g:=g) (fun x hx=>h x (bX _ (i8 _ hx))) hg;obtain ⟨r1,r2⟩:=jM hk (g:=r) (fun x hx=>h x (bX _ (mW _ hx))) hr;have e1:(Gr.cons k g m r).parts=1+g.parts+r.parts:=rfl;have p0:=iU (x+121*g.parts);have px:=iU x;have io:(Lad.aT (rkT b ρ g)).Ok (2 ^ (x+121*g.parts)):=Lad.dY g1 (by omega) (Kw _) g2;have lo:=Lad.iB (w:=b.wide k) (hk k qi) io px p0;have m1:=jD (show x<=x+121*g.parts by omega);have Jc:(di (b.wide k) (ρ k) (Lad.aT (rkT b ρ g))).Ok (2 ^ (x+121*g.parts+1)):=lo.mono (by rw [xD]; omega);have to:=Lad.gQ Jc (show 0<=m by omega);have q0:=iU (x+121*g.parts+1);have hb:2 ^ (x+121*g.parts+1)*m+2 ^ (x+121*g.parts+1)<=2 ^ (x+121*g.parts+120):=by
   have:(2:Int) ^ (x+121*g.parts+120)=2 ^ (x+121*g.parts+1)*2 ^ 119:=by rw [<- Int.pow_add]
   rw [this];have h2:(2:Int) ^ (x+121*g.parts+1)*(m+1)<=2 ^ (x+121*g.parts+1)*2 ^ 119:=Int.mul_le_mul_of_nonneg_left (by omega) (by omega);rw [Int.mul_add,Int.mul_one] at h2;exact h2
  have to2:=to.mono hb;have w1:=jD (show x+121*g.parts+120<=x+121*(1+g.parts+r.parts)-1 by omega);have w2:=jD (show x+121*r.parts<=x+121*(1+g.parts+r.parts)-1 by omega);have w3:=xD (x+121*(1+g.parts+r.parts)-1);rw [show x+121*(1+g.parts+r.parts)-1+1=x+121*(1+g.parts+r.parts) by omega] at w3;have w0:=iU (x+121*(1+g.parts+r.parts)-1);rw [e1];refine ⟨fun l hl=>?_,fun y=>?_⟩
  ·rcases Qv hl with rfl | hl
   ·exact to2.mono (by omega)
   ·exact (r1 l hl).mono (by omega)
  ·show Lad.S (Lad.bH (di (b.wide k) (ρ k) (Lad.aT (rkT b ρ g))) m) y+((rkT b ρ r).map fun l=>Lad.S l y).sum < _;have s2:=r2 y;have s3:Lad.S (Lad.bH (di (b.wide k) (ρ k) (Lad.aT (rkT b ρ g))) m) y < 2 ^ (x+121*g.parts+120)\/Lad.S (Lad.bH (di (b.wide k) (ρ k) (Lad.aT (rkT b ρ g))) m) y<=0:=by
    rcases Lad.cf to2 y with ⟨h1,_⟩ | ⟨mm,_,h2,_,h4⟩
    ·right; omega
    ·left; omega
   have w4:=iU (x+121*g.parts+120);rcases s3 with s3 | s3 <;> omega
end Gr
namespace Gr
variable {b:Bk} {ρ σ:Str->Lad} {C:Int} {ns:List Str}
theorem iz {x:Nat} (hk:∀ n ∈ ns,(ρ n).Ok (2 ^ x)):∀ {g:Gr},Named ns g->g.Ok (2 ^ 30)->(∀ l ∈ rkT b ρ g,l.Ok (2 ^ (x+32*g.parts)))/\∀ y,((rkT b ρ g).map fun l=>Lad.S l y).sum < 2 ^ (x+32*g.parts)
 | .nil,_,_=>And.intro (fun l hl=>nomatch hl) (fun y=>by
  show (0:Int) < _;have:=iU (x+32*Gr.nil.parts); omega)
 | .cons k g m r,h,ho=>by
  obtain ⟨_,hg,Ba,si,hr,_⟩:=ho;have qi:k ∈ ns:=h ((k,g),m) (bF ..);obtain ⟨g1,g2⟩:=iz hk (g:=g) (fun x hx=>h x (bX _ (i8 _ hx))) hg;obtain ⟨r1,r2⟩:=iz hk (g:=r) (fun x hx=>h x (bX _ (mW _ hx))) hr;have e1:(Gr.cons k g m r).parts=1+g.parts+r.parts:=rfl;have p0:=iU (x+32*g.parts);have px:=iU x;have io:(Lad.aT (rkT b ρ g)).Ok (2 ^ (x+32*g.parts)):=Lad.dY g1 (by omega) (Kw _) g2;have lo:=Lad.iB (w:=b.wide k) (hk k qi) io px p0;have m1:=jD (show x<=x+32*g.parts by omega);have Jc:(di (b.wide k) (ρ k) (Lad.aT (rkT b ρ g))).Ok (2 ^ (x+32*g.parts+1)):=lo.mono (by rw [xD]; omega);have to:=Lad.gQ Jc (show 0<=m by omega);have q0:=iU (x+32*g.parts+1);have hb:2 ^ (x+32*g.parts+1)*m+2 ^ (x+32*g.parts+1)<=2 ^ (x+32*g.parts+31):=by
   have:(2:Int) ^ (x+32*g.parts+31)=2 ^ (x+32*g.parts+1)*2 ^ 30:=by rw [<- Int.pow_add]
   rw [this];have h2:(2:Int) ^ (x+32*g.parts+1)*(m+1)<=2 ^ (x+32*g.parts+1)*2 ^ 30:=Int.mul_le_mul_of_nonneg_left (by omega) (by omega);rw [Int.mul_add,Int.mul_one] at h2;exact h2
  have to2:=to.mono hb;have w1:=jD (show x+32*g.parts+31<=x+32*(1+g.parts+r.parts)-1 by omega);have w2:=jD (show x+32*r.parts<=x+32*(1+g.parts+r.parts)-1 by omega);have w3:=xD (x+32*(1+g.parts+r.parts)-1);rw [show x+32*(1+g.parts+r.parts)-1+1=x+32*(1+g.parts+r.parts) by omega] at w3;have w0:=iU (x+32*(1+g.parts+r.parts)-1);rw [e1];refine ⟨fun l hl=>?_,fun y=>?_⟩
  ·rcases Qv hl with rfl | hl
   ·exact to2.mono (by omega)
   ·exact (r1 l hl).mono (by omega)
  ·show Lad.S (Lad.bH (di (b.wide k) (ρ k) (Lad.aT (rkT b ρ g))) m) y+((rkT b ρ r).map fun l=>Lad.S l y).sum < _;have s2:=r2 y;have s3:Lad.S (Lad.bH (di (b.wide k) (ρ k) (Lad.aT (rkT b ρ g))) m) y < 2 ^ (x+32*g.parts+31)\/Lad.S (Lad.bH (di (b.wide k) (ρ k) (Lad.aT (rkT b ρ g))) m) y<=0:=by
    rcases Lad.cf to2 y with ⟨h1,_⟩ | ⟨mm,_,h2,_,h4⟩
    ·right; omega
    ·left; omega
   have w4:=iU (x+32*g.parts+31);rcases s3 with s3 | s3 <;> omega
theorem lz {P D x:Nat} (hk:∀ n ∈ ns,n ∈ b.names/\ρ n ≠ .nil/\(ρ n).parts<=P/\(ρ n).deep<=D/\(ρ n).Ok (2 ^ x)) (hP:1<=P):∀ {g:Gr},Named ns g->g.Ok (2 ^ 30)->P*g.parts<=390->D+g.deep<=24->x+32*g.parts<=2000->v8 b ρ ns g
 | .nil,_,_,_,_,_=>trivial
 | .cons k g m r,h,ho,hp,hd,hx=>by
  have Cm:∀ n ∈ ns,(ρ n).parts<=P/\(ρ n).deep<=D:=fun n hn=>⟨(hk n hn).2.2.1,(hk n hn).2.2.2.1⟩;have Ci:∀ n ∈ ns,(ρ n).Ok (2 ^ x):=fun n hn=>(hk n hn).2.2.2.2;have nm:2 ^ 30<=(2:Int) ^ 2000:=jD (by decide);obtain ⟨qi,vJ⟩:k ∈ ns/\(Named ns g/\Named ns r):=⟨h ((k,g),m) (bF ..),fun x hx=>h x (bX _ (i8 _ hx)),fun x hx=>h x (bX _ (mW _ hx))⟩;obtain ⟨DC,hg,Ba,si,hr,sg⟩:=ho;have ho:(Gr.cons k g m r).Ok (2 ^ 30):=⟨DC,hg,Ba,si,hr,sg⟩;have e1:(Gr.cons k g m r).parts=1+g.parts+r.parts:=rfl;have e2:(Gr.cons k g m r).deep=max (1+g.deep) r.deep:=rfl;rw [e1,Nat.mul_add,Nat.mul_add,Nat.mul_one] at hp;rw [e1] at hx;obtain ⟨s1,s2⟩:=dU Cm h;obtain ⟨g1,g2⟩:=dU Cm vJ.1;obtain ⟨n1,n2⟩:=iz Ci vJ.1 hg;have p0:=iU (x+32*g.parts);have px:=iU x;have io:(Lad.aT (rkT b ρ g)).Ok (2 ^ (x+32*g.parts)):=Lad.dY n1 (by omega) (Kw _) n2;have lo:=(Lad.iB (w:=b.wide k) (Ci k qi) io px p0);have m1:=jD (show x<=x+32*g.parts by omega);have m2:=jD (show x+32*g.parts+1<=2000 by omega);have m3:=xD (x+32*g.parts);obtain ⟨kb,DO,kp,kd,kx⟩:=hk k qi;have num:∀ {l:Lad},l.Ok (2 ^ 2000)->∀ p ∈ l.ps,0<=p.2/\p.2 < 2 ^ 2000:=fun hl p hp=>by
   have:=(Lad.aS.mp hl).1 p hp;exact ⟨by omega,this.2.2⟩
  have ip:(Lad.aT (rkT b ρ g)).parts<=P*g.parts:=Yb (Lad.dB _) g1;have DT:(Lad.aT (rkT b ρ g)).deep<=D+g.deep:=Lad.eQ g2;have lp:=Lad.gz (b.wide k) (ρ k) (Lad.aT (rkT b ρ g));have ld:=Lad.jQ (w:=b.wide k) (o:=ρ k) (l:=Lad.aT (rkT b ρ g)) (n:=D+g.deep) (by omega) DT;refine ⟨⟨qi,kb,DO,⟨by omega,by omega,num (kx.mono (by omega))⟩,⟨by show (Lad.aT (rkT b ρ g)).deep<=25; omega,by show (Lad.aT (rkT b ρ g)).parts<=900; omega,num (io.mono (by omega))⟩,⟨by show (di (b.wide k) (ρ k) (Lad.aT (rkT b ρ g))).deep<=25; omega,by show (di (b.wide k) (ρ k) (Lad.aT (rkT b ρ g))).parts<=900; omega,num (lo.mono (by omega))⟩,by omega,by omega,?_⟩,lz hk hP vJ.1 hg (by omega) (by omega) (by omega),lz hk hP vJ.2 hr (by omega) (by omega) (by omega)⟩;have key:∀ ls:List Lad,(ls.flatMap Lad.ps).length<=(ls.map Lad.parts).sum:=by
   intro ls
   induction ls with
   | nil=>exact Yc _
   | cons l r ih =>
    rw [List.flatMap_cons,Yf,Ky,List.sum_cons,Lad.cE];have:=l.aN;omega
  have:=key (rkT b ρ (.cons k g m r));rw [e1,Nat.mul_add,Nat.mul_add,Nat.mul_one] at s1;exact Yb (Yb this s1) (by omega)
end Gr
theorem Pt {P D x m:Nat} (hk:∀ n ∈ ns,(ρ n).parts<=P/\(ρ n).deep<=D) (hx:∀ n ∈ ns,(ρ n).Ok (2 ^ x)) (h1:Gr.Named ns r.1) (h2:Gr.Named ns r.2) (o1:r.1.Ok (2 ^ 30)) (o2:r.2.Ok (2 ^ 30)) (hs:r.1.parts+r.2.parts<=m) (hD:2<=D) :
  (gW b ρ r).parts<=m*P+2/\(gW b ρ r).deep<=D+m/\(gW b ρ r).Ok (2 ^ (x+32*m+2))/\(Gr.rk b ρ r.1).deep<=D+m/\(Gr.rk b ρ r.2).deep<=D+m/\(Gr.rk b ρ r.1).parts<=m*P/\(Gr.rk b ρ r.2).parts<=m*P:=by
 obtain ⟨a1,a2⟩:=Gr.dU (b:=b) hk h1;obtain ⟨b1,b2⟩:=Gr.dU (b:=b) hk h2;obtain ⟨c1,c2⟩:=Gr.iz (b:=b) hx h1 o1;obtain ⟨d1,d2⟩:=Gr.iz (b:=b) hx h2 o2;have w1:=qL r.1;have w2:=qL r.2;have p1:(Gr.rk b ρ r.1).parts<=P*r.1.parts:=Yb (Lad.dB _) a1;have p2:(Gr.rk b ρ r.2).parts<=P*r.2.parts:=Yb (Lad.dB _) b1;have q1:(Gr.rk b ρ r.1).deep<=D+r.1.deep:=Lad.eQ a2;have q2:(Gr.rk b ρ r.2).deep<=D+r.2.deep:=Lad.eQ b2;have e1:=iU (x+32*r.1.parts);have e2:=iU (x+32*r.2.parts);have k1:(Gr.rk b ρ r.1).Ok (2 ^ (x+32*r.1.parts)):=Lad.dY c1 (by omega) (Kw _) c2;have k2:(Gr.rk b ρ r.2).Ok (2 ^ (x+32*r.2.parts)):=Lad.dY d1 (by omega) (Kw _) d2;have ko:=Lad.qC k1 k2 e1 e2;have hm:P*r.1.parts+P*r.2.parts<=m*P:=by
  rw [<- Nat.mul_add,Nat.mul_comm m P];exact Nat.mul_le_mul_left _ hs
 have ap:=Lad.xy (Gr.rk b ρ r.1) (Gr.rk b ρ r.2);have ad:=Lad.sN (n:=D+m) (l:=Gr.rk b ρ r.1) (k:=Gr.rk b ρ r.2) (by omega) (by omega) (by omega);have m1:=jD (show x+32*r.1.parts<=x+32*m by omega);have m2:=jD (show x+32*r.2.parts<=x+32*m by omega);have m3:=xD (x+32*m);have m4:(2:Int) ^ (x+32*m+2)=2*2 ^ (x+32*m+1):=xD (x+32*m+1);have m5:=iU (x+32*m);exact ⟨by unfold gW; omega,ad,ko.mono (by omega),by omega,by omega,by omega,by omega⟩
structure BndY (m c:Nat) (l:Lad):Prop where
 ne:l ≠ .nil
 parts:l.parts<=Pm m c
 deep:l.deep<=2+m*c
 ok:l.Ok (2 ^ (2+(32*m+2)*c))
theorem PB {b:Bk} (ok:b.Ok) {m:Nat} (hm:∀ k ∈ b,EndK b k.n->∀ r ∈ k.rs,r.1.Ok (2 ^ 30)/\r.2.Ok (2 ^ 30)/\r.1.parts+r.2.parts<=m):∀ (c:Nat) (k:Kd),k ∈ b->EndK b k.n->Bz b k.n<=c->BndY m c (bT b k.n)
 | c,k,hk,he,hc=>by
  have jW:=De ok hk;have nm:∀ r ∈ k.rs,Gr.Named (adj b k.n) r.1/\Gr.Named (adj b k.n) r.2:=fun r hr=>⟨fun x hx=>by rw [jW]; exact zT hr (i8 _ hx),fun x hx=>by rw [jW]; exact zT hr (mW _ hx)⟩;have eq:=Ip ok hk he;have ne:bT b k.n ≠ .nil:=fun z=>by
   have:=Lad.iR (k.rs.map (gW b (bT b))) Lad.cV Lad.cV (bF ..);rw [<- eq,z] at this;rw [Lad.lt_nil_cons] at this; cases this
  have p2:=VC m c;have x0:(2:Int)<=2 ^ (2+(32*m+2)*c):=by
   have:=jD (show 1<=2+(32*m+2)*c by omega);exact this
  have BY:(∀ r ∈ k.rs,(gW b (bT b) r).parts<=Pm m c/\(gW b (bT b) r).deep<=2+m*c/\(gW b (bT b) r).Ok (2 ^ (2+(32*m+2)*c)))->BndY m c (bT b k.n):=fun h=>by
   refine ⟨ne,?_,?_,?_⟩ <;> rw [eq] <;> rcases Qv (Lad.gy (k.rs.map (gW b (bT b))) Lad.cV) with e | e
   ·rw [e]; show 1<=_; omega
   ·obtain ⟨r,hr,e⟩:=Qx e;rw [<- e]; exact (h r hr).1
   ·rw [e]; show 1<=_; omega
   ·obtain ⟨r,hr,e⟩:=Qx e;rw [<- e]; exact (h r hr).2.1
   ·rw [e]; exact Lad.fx.mono x0
   ·obtain ⟨r,hr,e⟩:=Qx e;rw [<- e]; exact (h r hr).2.2
  cases c with
  | zero =>
   have h0:adj b k.n=[]:=by
    cases ha:adj b k.n with
    | nil=>rfl
    | cons y ys =>
     have:=Pq ok he (k:=y) (by rw [ha]; exact bF ..);omega
   refine BY fun r hr=>?_;obtain ⟨n1,n2⟩:=nm r hr;rw [h0] at n1 n2;have nil_of:∀ g:Gr,Gr.Named [] g->g=.nil:=fun g h=>by
    cases g with
    | nil=>rfl
    | cons k g m r=>exact absurd (h ((k,g),m) (bF ..)) (by simp)
   have e:r=(.nil,.nil):=Prod.ext (nil_of _ n1) (nil_of _ n2);rw [e,HQ];exact ⟨by show 1<=2; decide,by show 1<=_; omega,Lad.fx.mono x0⟩
  | succ c =>
   have Bi:∀ n ∈ adj b k.n,BndY m c (bT b n):=fun n hn=>by
    have d4:=Pq ok he hn;obtain ⟨kd,eg⟩:=Bk.dW (Df ok hn);obtain ⟨JG,rfl⟩:=Bk.get_some eg;exact PB ok hm c kd JG (he.next hn) (by omega)
   refine BY fun r hr=>?_;obtain ⟨n1,n2⟩:=nm r hr;obtain ⟨o1,o2,hs⟩:=hm k hk he r hr;obtain ⟨c1,c2,c3,_⟩:=Pt (b:=b) (ρ:=bT b) (P:=Pm m c) (D:=2+m*c) (x:=2+(32*m+2)*c) (fun n hn=>⟨(Bi n hn).parts,(Bi n hn).deep⟩) (fun n hn=>(Bi n hn).ok) n1 n2 o1 o2 hs (by omega);refine ⟨c1,by rw [Nat.mul_succ]; omega,?_⟩;have:2+(32*m+2)*(c+1)=2+(32*m+2)*c+32*m+2:=by rw [Nat.mul_succ]; omega
   rw [this]; exact c3
theorem zck (ok:b.Ok) {m:Nat} (hm:∀ k ∈ b,EndK b k.n->∀ r ∈ k.rs,r.1.Ok (2 ^ 30)/\r.2.Ok (2 ^ 30)/\r.1.parts+r.2.parts<=m) (hP:m*Pm m (b.length-2)<=390) (hD:2+m*(b.length-2)+m<=24) (hX:2+(32*m+2)*(b.length-2)+32*m<=2000):OwnR b (bT b)/\∀ n ∈ b.names,EndK b n->BndY m (b.length-1) (bT b n):=by
 have hb:∀ n ∈ b.names,EndK b n->BndY m (b.length-1) (bT b n):=fun n hn he=>by
  obtain ⟨kd,eg⟩:=Bk.dW hn;obtain ⟨JG,rfl⟩:=Bk.get_some eg;have:=Wm he hn;exact PB ok hm _ kd JG he (by omega)
 have Bi:∀ k ∈ b,EndK b k.n->∀ n ∈ adj b k.n,BndY m (b.length-2) (bT b n):=fun k hk he n hn=>by
  obtain ⟨kd,eg⟩:=Bk.dW (Df ok hn);obtain ⟨JG,rfl⟩:=Bk.get_some eg;have h1:=Pq ok he hn;have h2:=Wm he (Ku ⟨k,hk,rfl⟩);exact PB ok hm _ kd JG (he.next hn) (by omega)
 have p2:=VC m (b.length-2);refine ⟨⟨fun k hk he=>Ip ok hk he,fun k hk he ns YH r hr=>?_,fun k hk he r hr=>?_⟩,hb⟩
 ·have jW:=De ok hk;have n1:Gr.Named (adj b k.n) r.1:=fun x hx=>by rw [jW]; exact zT hr (i8 _ hx)
  have n2:Gr.Named (adj b k.n) r.2:=fun x hx=>by rw [jW]; exact zT hr (mW _ hx)
  obtain ⟨o1,o2,hs⟩:=hm k hk he r hr;have hc:=Bi k hk he;obtain ⟨_,_,_,d1,d2,q1,q2⟩:=Pt (b:=b) (ρ:=bT b) (P:=Pm m (b.length-2)) (D:=2+m*(b.length-2)) (x:=2+(32*m+2)*(b.length-2)) (fun n hn=>⟨(hc n hn).parts,(hc n hn).deep⟩) (fun n hn=>(hc n hn).ok) n1 n2 o1 o2 hs (by omega);have w1:=qL r.1;have w2:=qL r.2;have hP1:Pm m (b.length-2)*r.1.parts<=390:=Yb (Nat.mul_le_mul_left _ (show r.1.parts<=m by omega)) (by rw [Nat.mul_comm]; exact hP);have hP2:Pm m (b.length-2)*r.2.parts<=390:=Yb (Nat.mul_le_mul_left _ (show r.2.parts<=m by omega)) (by rw [Nat.mul_comm]; exact hP);have xI:∀ n ∈ adj b k.n,n ∈ b.names/\bT b n ≠ .nil/\(bT b n).parts<=Pm m (b.length-2)/\(bT b n).deep<=2+m*(b.length-2)/\(bT b n).Ok (2 ^ (2+(32*m+2)*(b.length-2))):=fun n hn=>⟨Df ok hn,(hc n hn).ne,(hc n hn).parts,(hc n hn).deep,(hc n hn).ok⟩;exact ⟨(Gr.lz xI (by omega) n1 o1 hP1 (by omega) (by omega)).mono YH,(Gr.lz xI (by omega) n2 o2 hP2 (by omega) (by omega)).mono YH,by omega,by omega,by omega,by omega⟩
 ·have jW:=De ok hk;have n1:Gr.Named (adj b k.n) r.1:=fun x hx=>by rw [jW]; exact zT hr (i8 _ hx)
  have n2:Gr.Named (adj b k.n) r.2:=fun x hx=>by rw [jW]; exact zT hr (mW _ hx)
  obtain ⟨o1,o2,hs⟩:=hm k hk he r hr;have hc:=Bi k hk he;obtain ⟨_,d0,_⟩:=Pt (b:=b) (ρ:=bT b) (P:=Pm m (b.length-2)) (D:=2+m*(b.length-2)) (x:=2+(32*m+2)*(b.length-2)) (fun n hn=>⟨(hc n hn).parts,(hc n hn).deep⟩) (fun n hn=>(hc n hn).ok) n1 n2 o1 o2 hs (by omega);omega
theorem PZ {α:Type} [DecidableEq α] {x:α}:∀ {l:List α},x ∈ l->∃ j:Nat,l[j]?=some x/\∀ (i:Nat),i < j->l[i]? ≠ some x
 | [],h=>nomatch h
 | a::l,h=>by
  by_cases e:a=x
  ·exact ⟨0,by rw [e]; rfl,fun i hi=>by omega⟩
  ·have hx:x ∈ l:=by
    rcases Qv h with z | z
    ·exact absurd z.symm e
    ·exact z
   obtain ⟨j,h1,h2⟩:=PZ hx;refine ⟨j+1,by simpa using h1,fun i hi=>?_⟩;cases i with
   | zero=>simpa using e
   | succ i=>simpa using h2 i (by omega)
def gu (c:Addr) (a l s:Int):List (Key × V):=[(Sum.inr "cells",V.ref c),(Sum.inr wa,V.int a),(Sum.inr "left",V.int l),(Sum.inr "seed",V.int s)]
theorem W4 (c:Addr) (a l s:Int):valV (gu c a l s) (Sum.inr "cells")=some (.ref c):=rfl
theorem O6 (c:Addr) (a l s:Int):valV (gu c a l s) (Sum.inr wa)=some (.int a):=rfl
theorem NL (c:Addr) (a l s:Int):valV (gu c a l s) (Sum.inr "left")=some (.int l):=rfl
theorem WA (c:Addr) (a l s:Int):valV (gu c a l s) (Sum.inr "seed")=some (.int s):=rfl
theorem zg7 (c:Addr) (a l s x:Int):putK (gu c a l s) (Sum.inr wa) (.int x)=gu c x l s:=rfl
def Mh (H:Hp) (p:Addr):Prop:=∃ (c:Addr) (ns:List Int) (a l s:Int),H p=some (.dK (gu c a l s))/\H c=some (.lst (ns.map V.int))/\ns.length<=63/\0<=a/\a<=ns.length/\(0<=l/\l < 10 ^ 320)/\(0<=s/\s < 2 ^ 31)
def U9 (K:Qn):Sp:=fun vs H Q _=>∃ (a:Addr) (ns:List Int),vs=[.ref a]/\SqL K H a (ns.map V.int)/\ns.length<=63/\∀ (p:Addr) (H':Hp),SB [] H H'->H p=none->Mh H' p->Q (.ref p) H'
theorem C8 {σ:L2.St} {H:Hp} {Q:L2.St->Hp->Prop} (h:Q (σ.set i (some x)) H):gName i x σ H Q:=h
namespace Lad
variable {a b c d l k w g r e:Lad} {m n:Int} {B:Int} {qs:List (Lad × Int)} {p:Lad × Int}
def low (l:Lad):Lad:=match l.ps.getLast? with
 | none=>.nil
 | some p=>if p.2=1 then ofPs l.ps.dropLast else ofPs (l.ps.dropLast++[(p.1,p.2-1)])
def lst (l:Lad):Lad:=match l.ps.getLast? with
 | none=>.nil
 | some p=>p.1
theorem snoc_of (h:l ≠ .nil):∃ qs p,l.ps=qs++[p]:=by
 rcases List.eq_nil_or_concat l.ps with e | ⟨qs,p,e⟩
 ·exact absurd (by rw [<- aD l,e]; rfl) h
 ·exact ⟨qs,p,by rw [e,List.concat_eq_append]⟩
theorem mu (e:l.ps=qs++[p]):low l=if p.2=1 then ofPs qs else ofPs (qs++[(p.1,p.2-1)]):=by
 unfold low;rw [e];simp
theorem jo (e:l.ps=qs++[p]):lst l=p.1:=by
 unfold lst;rw [e];simp
theorem uk (h:l.Ok B):(low l).Ok B:=by
 by_cases hl:l=.nil
 ·rw [hl]; exact trivial
 obtain ⟨qs,p,e⟩:=snoc_of hl;have h1:=aS.mp h;rw [e] at h1;obtain ⟨h2,h3⟩:=h1;rw [mu e];have hp:=h2 p (by simp);rw [List.pairwise_append] at h3
 split
 ·rw [fe];exact ⟨fun q hq=>h2 q (i8 _ hq),h3.1⟩
 ·rw [fe];refine ⟨fun q hq=>?_,?_⟩
  ·rcases Qw hq with hq | hq
   ·exact h2 q (i8 _ hq)
   ·rw [Qy hq];exact ⟨hp.1,by show 1<=p.2-1; omega,by show p.2-1 < B; omega⟩
  ·rw [List.pairwise_append];refine ⟨h3.1,List.pairwise_singleton ..,fun x hx y hy=>?_⟩;rw [Qy hy];exact h3.2.2 x hx p (by simp)
theorem yo (h:l ≠ .nil) (x:Lad):S (low l) x=S l x-if lst l=x then 1 else 0:=by
 obtain ⟨qs,p,e⟩:=snoc_of h;rw [mu e,jo e];show aB (if p.2=1 then ofPs qs else ofPs (qs++[(p.1,p.2-1)])).ps x=aB l.ps x-_;rw [e,bu,show ([p]:List (Lad × Int))=[(p.1,p.2)] from rfl,ax,br]
 split
 ·rw [a9]
  split <;> omega
 ·rw [a9,bu,ax,br]
  split <;> omega
theorem kI (l:Lad):(low l).parts<=l.parts:=by
 by_cases hl:l=.nil
 ·rw [hl]; exact Yc _
 obtain ⟨qs,p,e⟩:=snoc_of hl;have h:l.parts=tot l.ps:=by rw [<- aK,aD]
 rw [mu e,h,e,aU]
 split
 ·rw [aK]; omega
 ·rw [aK,aU];exact Yc _
theorem mv {n:Nat} (h:l.deep<=n):(low l).deep<=n:=by
 by_cases hl:l=.nil
 ·rw [hl]; exact Nat.zero_le _
 obtain ⟨qs,p,e⟩:=snoc_of hl;rw [mu e];have h1:∀ q ∈ qs++[p],q.1.deep < n:=fun q hq=>Nat.lt_of_lt_of_le (aA l q (by rw [e]; exact hq)) h
 split
 ·exact eP fun q hq=>h1 q (i8 _ hq)
 ·refine eP fun q hq=>?_;rcases Qw hq with hq | hq
  ·exact h1 q (i8 _ hq)
  ·rw [Qy hq];exact h1 p (by simp)
theorem R.low (h:R l):R (low l):=by
 obtain ⟨B,hB,h⟩:=h;exact ⟨B,hB,uk h⟩
theorem R.lst (h:R l):R (lst l):=by
 by_cases hl:l=.nil
 ·rw [hl]; exact R.nil
 obtain ⟨B,hB,h⟩:=h;obtain ⟨qs,p,e⟩:=snoc_of hl;rw [jo e];exact ⟨B,hB,((aS.mp h).1 p (by rw [e]; simp)).1⟩
theorem R.pow (h:R e):R (.cons e 1 .nil):=by
 obtain ⟨B,hB,h⟩:=h;exact ⟨B+1,by omega,yd (h.mono (by omega)) (by omega)⟩
theorem lH (h:R l) {x:Lad} (hx:x.lt (lst l)=true):S l x=0:=by
 by_cases hl:l=.nil
 ·rw [hl]; exact br x
 obtain ⟨B,hB,h⟩:=h;obtain ⟨qs,p,e⟩:=snoc_of hl;rw [jo e] at hx;refine uR fun q hq z=>?_;have h2:=(aS.mp h).2;rw [e,List.pairwise_append] at h2;rw [e] at hq;rcases Qw hq with hq | hq
 ·have:=h2.2.2 q hq p (by simp);rw [z] at this;rw [lt_asymm this] at hx;cases hx
 ·rw [Qy hq] at z;rw [z,lt_irrefl] at hx;cases hx
theorem CM (h:R l) (hl:l ≠ .nil):1<=S l (lst l):=by
 obtain ⟨B,hB,h⟩:=h;obtain ⟨qs,p,e⟩:=snoc_of hl;have hp:p ∈ l.ps:=by rw [e]; simp
 rw [jo e,hH h hp];exact ((aS.mp h).1 p hp).2.1
theorem By (e x:Lad):vX (.cons e 1 .nil) x=!x.lt e:=by
 show ([(e,(1:Int))].all fun p=>!x.lt p.1)=_;simp
theorem vz (h:R l) (hl:l ≠ .nil):cL (low l) (.cons (lst l) 1 .nil)=l:=by
 have rp:=h.lst.pow;refine (h.low.cL rp).ext h fun x=>?_;obtain ⟨B,hB,hp⟩:=rp;rw [j3 hp,By,kZ,yo hl];cases hx:x.lt (lst l) with
 | true =>
  have ne:¬ lst l=x:=fun z=>by rw [z,lt_irrefl] at hx; cases hx
  rw [lH h hx,if_neg ne];simp
 | false =>
  simp only [Bool.not_false,if_true]
  split <;> omega
def iY (a b:Lad):Lad:=if b.lt a=true then .nil else rst a b
theorem R.iY (ra:R a) (rb:R b):R (iY a b):=by
 unfold Lad.iY
 split
 ·exact R.nil
 ·rename_i h;obtain ⟨A,hA,ra⟩:=ra;obtain ⟨B,hB,rb⟩:=rb;exact ⟨B,hB,tX ra rb (by simpa using h)⟩
theorem tY (ra:R a) (h:b.Ok B) (hB:1<=B):(iY a b).Ok B:=by
 unfold iY
 split
 ·exact trivial
 ·rename_i h2;obtain ⟨A,hA,ra⟩:=ra;exact tX ra h (by simpa using h2)
theorem iP (a b:Lad):(iY a b).parts<=b.parts:=by
 unfold iY
 split
 ·exact Nat.zero_le _
 ·exact oj a b
theorem jK (a b:Lad):(iY a b).deep<=b.deep:=by
 unfold iY
 split
 ·exact Nat.zero_le _
 ·exact rH a b
theorem ua (ra:R a) (rb:R b):Le b (cL a (iY a b)):=by
 unfold iY
 split
 ·rename_i h;rw [dj];exact Le.of_lt h
 ·rename_i h;obtain ⟨A,hA,ra⟩:=ra;obtain ⟨B,hB,rb⟩:=rb;rw [qy ra rb (by simpa using h)];exact Le.refl
theorem tZ (ra:R a) (rb:R b) (rc:R c) (hc:c ≠ .nil) (h:b.lt (cL a c)=true):(iY a b).lt c=true:=by
 have rr:=ra.iY rb;unfold iY at rr ⊢
 split
 ·exact nil_le c hc
 ·rename_i h2;rw [if_neg h2] at rr;have e:cL a (rst a b)=b:=by
   obtain ⟨A,hA,ra⟩:=ra;obtain ⟨B,hB,rb⟩:=rb;exact qy ra rb (by simpa using h2)
  cases hx:(rst a b).lt c with
  | true=>rfl
  | false =>
   exfalso
   rcases (show Le c (rst a b) from hx).cases with z | z
   ·rw [z,e,lt_irrefl] at h;cases h
   ·have:=jv ra rc rr z;rw [e] at this;rw [lt_asymm this] at h;cases h
theorem Le.Mb (ra:R a) (rb:R b) (rc:R c) (h:Le b c):Le (cL a b) (cL a c):=by
 rcases h.cases with z | z
 ·rw [z]; exact Le.refl
 ·exact Le.of_lt (jv ra rb rc z)
theorem oQ (rd:R d) (re:R e) (h:d.lt (.cons e 1 .nil)=true):∀ p ∈ d.ps,p.1.lt e=true:=by
 intro p hp;obtain ⟨x,hx,hy⟩:=(rd.lt_iff re.pow).mp h;obtain ⟨D,hD,rd⟩:=rd;rw [kZ] at hx;have h0:=bM rd x;have gA:=hH rd hp;have fB:=((aS.mp rd).1 p hp).2.1
 split at hx
 ·rename_i ex;subst ex;cases hc:p.1.lt e with
  | true=>rfl
  | false =>
   exfalso
   by_cases z:p.1=e
   ·rw [z] at gA; omega
   ·have:=hy p.1 (eI _ _ z hc);rw [kZ,if_neg (fun w=>z w.symm)] at this;omega
 ·omega
theorem xw (h:∀ p ∈ d.ps,p.1.lt e=true) {x:Lad} (hx:x.lt e=false):vX d x=true:=by
 unfold vX;rw [List.all_eq_true];intro p hp;cases hc:x.lt p.1 with
 | false=>rfl
 | true=>rw [lt_trans _ _ _ hc (h p hp)] at hx; cases hx
def gone (w l g:Lad):Lad:=cL (low l) (iY (low w) g)
theorem R.gone (mV:R w) (rl:R l) (rg:R g):R (gone w l g):=rl.low.cL (mV.low.iY rg)
theorem rM (mV:R w) (hw:w ≠ .nil) (rg:R g) (h:g.lt w=true):(iY (low w) g).lt (.cons (lst w) 1 .nil)=true :=
 tZ mV.low rg mV.lst.pow (by simp) (by rw [vz mV hw]; exact h)
theorem Br (mV:R w) (hw:w ≠ .nil) (rl:R l) (hl:l ≠ .nil) (rg:R g) (e:lst w=lst l) (h:g.lt w=true):(gone w l g).lt l=true:=by
 have h1:=jv rl.low (mV.low.iY rg) mV.lst.pow (rM mV hw rg h);rw [e,vz rl hl] at h1;exact h1
theorem Bs (ro:R o) (rl:R l) (hl:l ≠ .nil) (rg:R g) (rr:R r) (hw:bS o l ≠ .nil) (e:lst (bS o l)=lst l) (h:g.lt (bS o l)=true) (hr:Le (gone (bS o l) l g) r):Le g (bS o r):=by
 have mV:=ro.bS rl;have rd:=mV.low.iY rg;have h1:=oQ rd mV.lst (rM mV hw rg h);refine Le.trans ?_ (Le.bS ro ro (mV.gone rl rg) rr Le.refl hr);have eq:bS o (gone (bS o l) l g)=cL (low (bS o l)) (iY (low (bS o l)) g):=by
  refine (ro.bS (mV.gone rl rg)).ext (mV.low.cL rd) fun x=>?_;have hd:=rd;obtain ⟨D,hD,hd⟩:=hd;show S (bS o (cL (low l) (iY (low (bS o l)) g))) x=_;rw [cZ,j3 hd,j3 hd,yo hl,yo hw,cZ,e];cases hx:x.lt (lst l) with
  | true =>
   have ne:¬ lst l=x:=fun z=>by rw [z,lt_irrefl] at hx; cases hx
   have z1:=lH rl hx;have z2:=lH mV (by rw [e]; exact hx);rw [cZ] at z2;rw [if_neg ne];have z3:S o x=0:=by omega
   rw [z1,z3]
   split <;> omega
  | false =>
   have hcv:=xw h1 (x:=x) (by rw [e]; exact hx);simp only [hcv,if_true];omega
 rw [eq];exact ua mV.low rg
theorem p5 {m':Int} {r':Lad} (h:m < m'):Lad.lt (.cons e m r) (.cons e m' r')=true:=by
 cases hc:Lad.lt (.cons e m r) (.cons e m' r') with
 | true=>rfl
 | false =>
  rcases iA hc with ⟨_,h1,_⟩ | ⟨_,h1⟩ | ⟨h1,_⟩
  ·omega
  ·omega
  ·exact absurd rfl h1
def hde:Lad->Lad
 | .nil=>.nil
 | .cons e _ _=>e
def Af:Lad->Int
 | .nil=>0
 | .cons _ m r=>if r=.nil then m-1 else m
theorem R.hde (h:R l):R (hde l):=by
 cases l with
 | nil=>exact R.nil
 | cons e m r=>exact h.exp
theorem Eh (rg:R g) (re:R e) (he:e ≠ .nil) (h:g.lt (.cons e 1 .nil)=true):(hde g).lt e=true:=by
 cases g with
 | nil=>exact nil_le e he
 | cons f m r=>exact oQ rg re h (f,m) (bF ..)
theorem EG (hb:b ≠ .nil):cL a b ≠ .nil:=by
 cases b with
 | nil=>exact absurd rfl hb
 | cons e m r =>
  rw [cN];intro z;have:=congrArg Lad.ps z;rw [a9] at this;exact absurd this (by simp [Lad.ps])
theorem uM {h':Lad} (ro:R o) (rg:R g) (rh:R h') (h:Le (iY o g) h'):Le g (di false o h') :=
 (ua ro rg).trans (Le.Mb ro (ro.iY rg) rh h)
theorem tA {e0 r0 h':Lad} {m0:Int} (ro:R (.cons e0 m0 r0)) (rg:R g) (rh:R h') (h:Le (iY e0 (hde g)) h') (hn:Af g<=n) (h0:0<=n):Le g (bH (di true (.cons e0 m0 r0) h') (1+n)):=by
 have re:=ro.exp;have rf:=re.cL rh;have h1:Le (hde g) (cL e0 h'):=(ua re rg.hde).trans (Le.Mb re (re.iY rg.hde) rh h);have m0p:1<=m0:=by
  obtain ⟨B,hB,hb⟩:=ro;exact hb.2.1
 have h2:Le (.cons (cL e0 h') 1 .nil) (di true (.cons e0 m0 r0) h'):=by
  cases h' with
  | nil =>
   rw [dj];show Le _ (.cons e0 m0 r0);by_cases z:1 < m0
   ·exact Le.of_lt (p5 z)
   ·have:m0=1:=by omega
    subst this;cases r0 with
    | nil=>exact Le.refl
    | cons e1 m1 r1 =>
     show Lad.lt (.cons e0 1 (.cons e1 m1 r1)) (.cons e0 1 .nil)=false;cases hc:Lad.lt (.cons e0 1 (.cons e1 m1 r1)) (.cons e0 1 .nil) with
     | false=>rfl
     | true =>
      rw [dV] at hc;simp [bR] at hc
  | cons e1 m1 r1=>exact Le.refl
 refine Le.trans ?_ (Le.bH rf.pow (ro.di rh) (by omega) h2);rw [vh (by omega)];cases g with
 | nil=>exact Le.nil
 | cons e m r =>
  rcases h1.cases with z | z
  ·have z':e=cL e0 h':=z;rw [<- z'];simp only [Af] at hn
   split at hn
   ·rename_i er;subst er;by_cases q:m < 1+n
    ·exact Le.of_lt (p5 q)
    ·have:m=1+n:=by omega
     rw [this]; exact Le.refl
   ·exact Le.of_lt (p5 (by omega))
  ·exact Le.of_lt (top_lt z)
theorem mO (rl:R l) (rk:R k) (rg:R g) (h:g.lt (l.oU k)=true) (hn:0<=n) (hg:l.lt g=true->∃ e m r,k=.cons e m r/\1+S g e<=n):Le g (l.bS (k.bH n)):=by
 cases hc:l.lt g with
 | false=>exact (show Le g l from hc).trans (um rl (rk.bH hn))
 | true =>
  obtain ⟨e,m,r,ek,h1⟩:=hg hc;refine kY rl rk rg h ?_;rw [ek];exact h1
theorem Bx (rl:R l) (rg:R g) (h:g.lt (l.oU k)=true) (h2:l.lt g=true):k ≠ .nil:=by
 rintro rfl
 have h3:=kY rl R.nil rg h (n:=0) (by show (0:Int)<=0; omega);rw [qZ] at h3;have e:bS l .nil=l:=by
  obtain ⟨B,hB,hl⟩:=rl;exact j0 hl
 rw [e] at h3;have uI:l.lt g=false:=h3;rw [uI] at h2;cases h2
end Lad
namespace Lad
variable {a b c l k o h h':Lad} {m n:Int} {w:Bool}
theorem Le.EH (h:Le a b) (g:Le b a):a=b:=by
 rcases h.cases with e | e
 ·exact e
 ·have g':a.lt b=false:=g;rw [g'] at e;cases e
theorem yn (r:R l) {x:Lad} (h:1<=S l x):Le (lst l) x:=by
 show x.lt (lst l)=false;cases hc:x.lt (lst l) with
 | false=>rfl
 | true=>have:=lH r hc; omega
theorem p6 (ho:o ≠ .nil):di w o .nil=o:=by
 cases w with
 | true =>
  cases o with
  | nil=>exact absurd rfl ho
  | cons e m r=>rfl
 | false=>exact dj o
theorem lN (r:R l):bH l 1=l:=by
 refine (r.bH (by decide)).ext r fun x=>?_;rw [hE]; omega
theorem wk {e0 r0:Lad} {m0:Int} (ro:R (.cons e0 m0 r0)) (rh:R h) (IJ:R h') (hl:h'.lt h=true) (hn:0<=n):(bH (di true (.cons e0 m0 r0) h') (1+n)).lt (di true (.cons e0 m0 r0) h)=true:=by
 have sh:h ≠ .nil:=fun z=>by rw [z,bR] at hl; cases hl
 have e1:di true (.cons e0 m0 r0) h=.cons (cL e0 h) 1 .nil:=iu sh;rw [e1];cases h' with
 | nil =>
  rw [p6 (by simp)];unfold bH;rw [if_neg (by omega)];exact top_lt (kN ro.exp rh sh)
 | cons f q s =>
  rw [show di true (.cons e0 m0 r0) (.cons f q s)=.cons (cL e0 (.cons f q s)) 1 .nil from rfl,vh (by omega)];exact top_lt (jv ro.exp IJ rh hl)
end Lad
namespace Gr
variable {b:Bk} {ρ:Str->Lad} {ns:List Str} {C F n:Int} {g X fr:Gr} {p:Tr × Int}
structure Goods (b:Bk) (ρ:Str->Lad) (ns:List Str):Prop where
 rt:∀ n ∈ ns,Lad.R (ρ n)/\ρ n ≠ .nil
 nm:∀ n ∈ ns,∀ kd,b.get n=some kd->∀ r ∈ kd.rs,dC r/\Named ns r.1/\Named ns r.2
 own:∀ n ∈ ns,∀ kd,b.get n=some kd->ρ n=Lad.jm Lad.cV (kd.rs.map (gW b ρ))
theorem Dj (h:g.Ok C) (hp:p ∈ g.ps) (X:Gr) (x:Lad):Lad.S (rk b ρ (kf (wo g p.1 1) X)) x=Lad.S (rk b ρ g) x-Lad.S (eA b ρ p.1) x+Lad.S (rk b ρ X) x:=by
 rw [qD,qD,qD X];have e:=NT (fun t=>Lad.S (eA b ρ t) x) _ (kf (wo g p.1 1) X).ps (g.ps++((p.1,-1)::X.ps)) (Yc _) (fun y=>?_)
 ·rw [e,QC];show wsum _ g.ps+(Lad.S (eA b ρ p.1) x*-1+wsum _ X.ps)=_;omega
 ·show S (kf (wo g p.1 1) X) y=_;rw [zw,Mf h (by decide),Dg,wh];show _=S g y+((if p.1=y then -1 else 0)+S X y);have h1:=hH h hp;have h2:=(bE h hp).2.2.1;by_cases e:y=p.1
  ·rw [if_pos e,if_pos e.symm,e,h1]
   split <;> omega
  ·rw [if_neg e,if_neg (fun z=>e z.symm)];omega
theorem u9 (h:g.Ok C) (hp:p ∈ g.ps) (x:Lad):Lad.S (rk b ρ (wo g p.1 1)) x=Lad.S (rk b ρ g) x-Lad.S (eA b ρ p.1) x:=by
 have h1:=Dj (b:=b) (ρ:=ρ) h hp .nil x;rw [Au (fw h (by decide))] at h1;rw [h1,fR];show _-_+Lad.aB [] x=_;rw [Lad.br]; omega
theorem l7 (G:Goods b ρ ns) {t:Tr} (hk:t.1 ∈ ns) (ho:t.2.Ok C) (hn:Named ns t.2):Lad.R (eA b ρ t) :=
 (G.rt _ hk).1.di (lj ho (RN.named G.rt hn))
theorem qS (G:Goods b ρ ns) (ho:g.Ok C) (hn:Named ns g):Lad.R (rk b ρ g):=lj ho (RN.named G.rt hn)
theorem pY (G:Goods b ρ ns) (h:g.Ok C) (hn:Named ns g) (hp:p ∈ g.ps):rk b ρ g=(rk b ρ (wo g p.1 1)).bS (eA b ρ p.1):=by
 obtain ⟨h1,h2⟩:=aE.mp hn p hp;refine (qS G h hn).ext ((qS G (fw h (by decide)) (cC hn _ _)).bS (l7 G h1 (bE h hp).2.1 h2)) fun x=>?_;rw [Lad.cZ,u9 h hp]; omega
theorem vn (G:Goods b ρ ns) (h:g.Ok C) (hn:Named ns g) (hX:X.Ok F) (hF:1<=F) (J8:Named ns X) (hp:p ∈ g.ps):rk b ρ (kf (wo g p.1 1) X)=(rk b ρ (wo g p.1 1)).bS (rk b ρ X):=by
 have c2:=mU h hp;refine (qS G (gT (fw h (by decide)) hX (by omega) hF) (dM (cC hn _ _) J8)).ext ((qS G (fw h (by decide)) (cC hn _ _)).bS (qS G hX J8)) fun x=>?_;rw [Lad.cZ,Dj h hp,u9 h hp]
theorem Dy (G:Goods b ρ ns) {t:Tr} {m:Int} (h1:fm t.1) (h2:t.2.Ok C) (hk:t.1 ∈ ns) (hn:Named ns t.2) (hm:1<=m) (hC:m < C):rk b ρ (one t m)=Lad.bH (eA b ρ t) m:=by
 have rt:=l7 G hk h2 hn;have e:rk b ρ (one t m)=(Lad.bH (eA b ρ t) m).bS (rk b ρ .nil):=vq (C:=C) (me h1 h2 hm hC) (RN.named G.rt (gv hk hn m));rw [e,fR];obtain ⟨B,hB,hb⟩:=rt.bH (m:=m) (by omega);exact Lad.j0 hb
def CI (b:Bk) (ρ:Str->Lad) (n:Int) (fr:Gr) (r:Pl) (p:Tr × Int):Lad:=if r=[] then rk b ρ fr else Lad.bH (eA b ρ (chg b n fr r p)) (1+b.far p.1.1 n)
theorem iT (hn:0<=n) (uH:fr.Ok F) (hF:1<=F) (Eb:Named ns fr) (h:g.Ok C) (hg:Named ns g) (hp:p ∈ g.ps) {r:Pl} {k:Str} (hk:bareAt p.1.2 r=some k) :
  fm (chg b n fr r p).1/\(chg b n fr r p).2.Ok (C+F+n+2)/\(chg b n fr r p).1 ∈ ns/\Named ns (chg b n fr r p).2:=by
 obtain ⟨h1,h2⟩:=aE.mp hg p hp;obtain ⟨o1,o2,_⟩:=bE h hp;exact ⟨o1,ku hn hF uH o2 hk,h1,iN Eb hk h2⟩
theorem Dx (G:Goods b ρ ns) (hn:0<=n) (uH:fr.Ok F) (hF:1<=F) (Eb:Named ns fr) (h:g.Ok C) (hg:Named ns g) {i:Nat} {r:Pl} {k:Str} (ep:g.ps[i]?=some p) (hk:bareAt g (i::r)=some k) :
  rk b ρ (stk b n fr (i::r) g).1=(rk b ρ (wo g p.1 1)).bS (CI b ρ n fr r p):=by
 have hp:=Qu ep;unfold CI;by_cases hr:r=[]
 ·subst hr;rw [if_pos rfl,fq ep];exact vn G h hg uH hF Eb hp
 ·rw [if_neg hr,c5 ep hr];obtain ⟨p',e',hb⟩:=bB hr hk;rw [ep] at e';cases e';obtain ⟨c1,c2,c3,c4⟩:=iT (b:=b) hn uH hF Eb h hg hp hb;have hf:=b.ju p.1.1 hn;have c2p:=mU h hp;have ho:=me (m:=1+b.far p.1.1 n) c1 c2 (by omega) (by omega);show rk b ρ (kf (wo g p.1 1) (one (chg b n fr r p) (1+b.far p.1.1 n)))=_;rw [vn G h hg ho (by omega) (gv c3 c4 _) hp,Dy G c1 c2 c3 c4 (by omega) (by omega)]
theorem yi:dC iZ/\Named ns iZ.1/\Named ns iZ.2:=by
 refine ⟨⟨trivial,trivial,by decide⟩,?_,?_⟩
 ·intro x hx; exact nomatch hx
 ·intro x hx; exact nomatch hx
theorem rF (G:Goods b ρ ns) {k:Str} {kd:Kd} (hk:k ∈ ns) (e:b.get k=some kd) {r:Ru} (hr:r ∈ iZ::kd.rs):dC r/\Named ns r.1/\Named ns r.2:=by
 rcases Qv hr with z | z
 ·rw [z]; exact yi
 ·exact G.nm k hk kd e r z
theorem kM (G:Goods b ρ ns) {k:Str} {kd:Kd} (hk:k ∈ ns) (e:b.get k=some kd) {r:Ru} (hr:r ∈ iZ::kd.rs) (hn:0<=n) :
  (hO r n).Ok (1000000001*n+2000000002)/\Named ns (hO r n)/\rk b ρ (hO r n)=(rk b ρ r.1).bS (Lad.bH (rk b ρ r.2) n)/\Lad.R (rk b ρ r.1)/\Lad.R (rk b ρ r.2):=by
 obtain ⟨r1,r2,r3⟩:=rF G hk e hr;refine ⟨qu r1 hn,dM r2 (iQ r3 n),yc r1 hn G.rt r2 r3,qS G r1.1 r2,qS G r1.2.1 r3⟩
theorem x9 (G:Goods b ρ ns) {k:Str} (hk:k ∈ ns):eA b ρ (k,.nil)=ρ k:=by
 show di (b.wide k) (ρ k) (rk b ρ .nil)=ρ k;rw [fR];exact Lad.p6 (G.rt k hk).2
theorem yV {k:Str} (n:Int):b.far k n=if b.wide k=true then n else 0:=by
 unfold Bk.far Bk.wide;cases b.get k with
 | none=>rfl
 | some kd=>rfl
end Gr
namespace Gr
variable {b:Bk} {ρ:Str->Lad} {ns:List Str} {C F n:Int} {g X fr:Gr} {p:Tr × Int}
theorem n5 {γ:Type} (f:γ->Int):∀ l:List (γ × Int),(∀ p ∈ l,f p.1=0)->wsum f l=0
 | [],_=>rfl
 | p::r,h=>by
  show f p.1*p.2+wsum f r=0;rw [h p (bF ..),n5 f r fun q hq=>h q (bX _ hq)]; omega
theorem l5 (G:Goods b ρ ns) {t:Tr} (hk:t.1 ∈ ns) (ho:t.2.Ok C) (hn:Named ns t.2):eA b ρ t ≠ .nil:=by
 intro z;have h1:=Lad.AO (w:=b.wide t.1) (G.rt _ hk).1 (lj (b:=b) ho (RN.named G.rt hn)) (G.rt _ hk).2;have h2:Lad.Le (ρ t.1) .nil:=by
  rw [<- z]; exact h1
 rcases h2.cases with e | e
 ·exact (G.rt _ hk).2 e
 ·rw [Lad.bR] at e; cases e
theorem vo (G:Goods b ρ ns) (h:g.Ok C) (hn:Named ns g) (hg:g ≠ .nil):rk b ρ g ≠ .nil:=by
 cases g with
 | nil=>exact absurd rfl hg
 | cons k i m r =>
  have hp:((k,i),m) ∈ (Gr.cons k i m r).ps:=bF ..;obtain ⟨h1,h2⟩:=aE.mp hn _ hp;have ho:=(bE h hp).2.1;intro z;have e:=pY G h hn hp;rw [z] at e;have h3:Lad.Le (eA b ρ (k,i)) .nil:=by
   rw [e,Lad.j1];exact Lad.um (l7 G h1 ho h2) (qS G (fw h (by decide)) (cC hn _ _))
  rcases h3.cases with e | e
  ·exact l5 G h1 ho h2 e
  ·rw [Lad.bR] at e; cases e
theorem ym (G:Goods b ρ ns) (h:g.Ok C) (hn:Named ns g) (hg:g ≠ .nil):∃ p ∈ g.ps,Lad.lst (eA b ρ p.1)=Lad.lst (rk b ρ g):=by
 have rg:=qS G h hn;have ne:=vo G h hn hg;have s1:=Lad.CM rg ne;have ex:∃ p ∈ g.ps,Lad.S (eA b ρ p.1) (Lad.lst (rk b ρ g)) ≠ 0:=by
  rcases Classical.em (∃ p ∈ g.ps,Lad.S (eA b ρ p.1) (Lad.lst (rk b ρ g)) ≠ 0) with z | z
  ·exact z
  ·exfalso
   have:Lad.S (rk b ρ g) (Lad.lst (rk b ρ g))=0:=by
    rw [qD];exact n5 _ _ fun p hp=>Classical.byContradiction fun w=>z ⟨p,hp,w⟩
   omega
 obtain ⟨p,hp,hs⟩:=ex;obtain ⟨h1,h2⟩:=aE.mp hn p hp;have rt:=l7 G h1 (bE h hp).2.1 h2;have s2:0<=Lad.S (eA b ρ p.1) (Lad.lst (rk b ρ g)):=by
  obtain ⟨B,hB,hb⟩:=rt;exact Lad.bM hb _
 refine ⟨p,hp,Lad.Le.EH (Lad.yn rt (by omega)) (Lad.yn rg ?_)⟩;rw [pY G h hn hp,Lad.cZ];have rW:=qS G (fw (t:=p.1) (m:=1) h (by decide)) (cC hn p.1 1);have s3:=Lad.CM rt (l5 G h1 (bE h hp).2.1 h2);have s4:0<=Lad.S (rk b ρ (wo g p.1 1)) (Lad.lst (eA b ρ p.1)):=by
  obtain ⟨B,hB,hb⟩:=rW;exact Lad.bM hb _
 omega
def Reach (b:Bk) (ρ:Str->Lad) (g:Gr) (t:Lad) (pl:Pl) (i:Nat) (r:Ru) (n:Int):Prop :=
 0<=n/\∃ k kd,bareAt g pl=some k/\b.get k=some kd/\(iZ::kd.rs)[i]?=some r/\∀ n',n<=n'->Lad.Le t (rk b ρ (stk b n' (hO r n') pl g).1)
def qH (b:Bk) (ρ:Str->Lad) (x:Tr) (t:Lad) (pl:Pl) (i:Nat) (r:Ru) (n:Int):Prop :=
 0<=n/\∃ k kd,((pl=[]/\x=(k,.nil))\/(pl ≠ []/\bareAt x.2 pl=some k))/\b.get k=some kd/\(iZ::kd.rs)[i]?=some r/\∀ n',n<=n'->Lad.Le t (CI b ρ n' (hO r n') pl (x,1))
theorem rN (G:Goods b ρ ns) (h:g.Ok C) (hn:Named ns g) {at_:Nat} (ep:g.ps[at_]?=some p) (e:Lad.lst (eA b ρ p.1)=Lad.lst (rk b ρ g)) {t:Lad} (rt:Lad.R t) (ht:t.lt (rk b ρ g)=true)
  {pl:Pl} {i:Nat} {r:Ru} (hT:qH b ρ p.1 (Lad.gone (rk b ρ g) (eA b ρ p.1) t) pl i r n):Reach b ρ g t (at_::pl) i r n:=by
 obtain ⟨h0,k,kd,hk,ek,er,hr⟩:=hT;have hp:=Qu ep;obtain ⟨n1,n2⟩:=aE.mp hn p hp;have o2:=(bE h hp).2.1;have hb:bareAt g (at_::pl)=some k:=by
  rw [bareAt,ep];rcases hk with ⟨h1,h2⟩ | ⟨h1,h2⟩
  ·subst h1;show (if ([]:Pl)=[] then (if p.1.2=.nil then some p.1.1 else none) else _)=some k;rw [if_pos rfl,h2,if_pos rfl]
  ·show (if pl=[] then _ else bareAt p.1.2 pl)=some k;rw [if_neg h1,h2]
 refine ⟨h0,k,kd,hb,ek,er,fun n' A9=>?_⟩;have n0:0<=n':=by omega
 have kn:k ∈ ns:=eS hn hb;have rm:=Qu er;obtain ⟨f1,f2,f3,f4,f5⟩:=kM (n:=n') G kn ek rm n0;have f6:(1:Int)<=1000000001*n'+2000000002:=by omega
 rw [Dx G n0 f1 f6 f2 h hn ep hb];have rW:=qS G (fw (t:=p.1) (m:=1) h (by decide)) (cC hn p.1 1);have rp:=l7 G n1 o2 n2;have rc:Lad.R (CI b ρ n' (hO r n') pl p):=by
  unfold CI
  split
  ·exact qS G f1 f2
  ·rename_i fc;rcases hk with ⟨h1,_⟩ | ⟨h1,h2⟩
   ·exact absurd h1 fc
   ·obtain ⟨c1,c2,c3,c4⟩:=iT (b:=b) n0 f1 f6 f2 h hn hp h2;have:=b.ju p.1.1 n0;exact (l7 G c3 c2 c4).bH (by omega)
 have Gg:g ≠ .nil:=fun z=>by rw [z] at hp; exact nomatch hp
 have FQ:=vo G h hn Gg;have q:=hr n' A9;have ew:=pY G h hn hp;rw [ew] at q ht FQ e;refine Lad.Bs rW rp (l5 G n1 o2 n2) rt rc FQ e.symm ht ?_;exact q
theorem uc (G:Goods b ρ ns) {k:Str} {kd:Kd} (hk:k ∈ ns) (ek:b.get k=some kd) {i:Nat} {r:Ru} (er:(iZ::kd.rs)[i]?=some r) (h0:0<=n) {t:Lad}
  (hr:∀ n',n<=n'->Lad.Le t ((rk b ρ r.1).bS (Lad.bH (rk b ρ r.2) n'))):qH b ρ (k,.nil) t [] i r n:=by
 refine ⟨h0,k,kd,.inl ⟨rfl,Ja⟩,ek,er,fun n' A9=>?_⟩;obtain ⟨f1,f2,f3,f4,f5⟩:=kM (n:=n') G hk ek (Qu er) (by omega);show Lad.Le t (if ([]:Pl)=[] then rk b ρ (hO r n') else _);rw [if_pos rfl,f3];exact hr n' A9
theorem l9 (G:Goods b ρ ns) {x:Tr} (hk:x.1 ∈ ns) (nk:fm x.1) (ho:x.2.Ok C) (hn:Named ns x.2) {t u:Lad} (rt:Lad.R t) {pl:Pl} {i:Nat} {r:Ru} (hu:Reach b ρ x.2 u pl i r n) {n2:Int} (hle:n<=n2)
  (hf:b.wide x.1=false->u=Lad.iY (ρ x.1) t) (hw:b.wide x.1=true->u=Lad.iY (Lad.hde (ρ x.1)) (Lad.hde t)/\Lad.Af t<=n2):qH b ρ x t pl i r n2:=by
 obtain ⟨h0,k,kd,hb,ek,er,hr⟩:=hu;have fc:=qz hb;refine ⟨by omega,k,kd,.inr ⟨fc,hb⟩,ek,er,fun n' A9=>?_⟩;have n0:0<=n':=by omega
 have kn:k ∈ ns:=eS hn hb;obtain ⟨f1,f2,f3,f4,f5⟩:=kM (n:=n') G kn ek (Qu er) n0;have f6:(1:Int)<=1000000001*n'+2000000002:=by omega
 have o2:=ku (b:=b) n0 f6 f1 ho hb;have m2:=iN (b:=b) (n:=n') f2 hb hn;have rh:=qS G o2 m2;obtain ⟨ro,FX⟩:=G.rt _ hk;have q:=hr n' (by omega);show Lad.Le t (if pl=[] then _ else Lad.bH (di (b.wide x.1) (ρ x.1) (rk b ρ (stk b n' (hO r n') pl x.2).1)) (1+b.far x.1 n'));rw [if_neg fc,yV];cases xF:b.wide x.1 with
 | true =>
  obtain ⟨eu,h3⟩:=hw xF;rw [if_pos rfl];cases JA:ρ x.1 with
  | nil=>exact absurd JA FX
  | cons e0 m0 r0 =>
   rw [JA] at ro eu;rw [eu] at q;exact Lad.tA ro rt rh q (by omega) n0
 | false =>
  rw [if_neg (by decide),Int.add_zero,Lad.lN (ro.di rh)];rw [hf xF] at q;exact Lad.uM ro rt rh q
end Gr
theorem Lad.my:∀ ls:List Lad,(∀ l ∈ ls,l.deep<=31)->PyData.canLayAll0 (ls.map Lad.enc)=true
 | [],_=>rfl
 | l::r,h=>by
  show (PyData.canLay0 l.enc&&PyData.canLayAll0 (r.map Lad.enc))=true;rw [SeqAt.canLay_of_shaped (Lad.bL (h l (bF ..))),my r fun k hk=>h k (bX _ hk)]
  rfl
theorem Lad.BG (h:l.Ok B) (hB:1<=B) (x:Lad):0<=Lad.S l x/\Lad.S l x < B:=by
 rcases Lad.cf h x with ⟨e,_⟩ | ⟨m,_,e,h1,h2⟩ <;> omega
theorem Lad.Ey (h:l.Ok B) (hB:1<=B):0<=Lad.Af l/\Lad.Af l<=B:=by
 cases l with
 | nil=>exact ⟨Kw _,by show (0:Int)<=B; omega⟩
 | cons e m r =>
  obtain ⟨_,h1,h2,_⟩:=h;simp only [Lad.Af]
  split <;> omega
theorem Lad.yG (l:Lad):(Lad.hde l).deep<=l.deep:=by
 cases l with
 | nil=>exact Yc _
 | cons e m r=>exact Nat.le_of_lt (Lad.aA (.cons e m r) (e,m) (bF ..))
theorem Lad.xf (l:Lad):(Lad.hde l).parts<=l.parts:=by
 cases l with
 | nil=>exact Yc _
 | cons e m r=>exact Nat.le_of_lt (Lad.bA (.cons e m r) (e,m) (bF ..))
theorem Lad.Eg (h:l.Ok B):(Lad.hde l).Ok B:=by
 cases l with
 | nil=>exact trivial
 | cons e m r=>exact h.1
theorem Lad.rP (l:Lad):(Lad.lst l).deep<=l.deep:=by
 by_cases hl:l=.nil
 ·rw [hl]; exact Yc _
 ·obtain ⟨qs,p,e⟩:=Lad.snoc_of hl;rw [Lad.jo e];exact Nat.le_of_lt (Lad.aA l p (by rw [e]; simp))
theorem Lad.gone_ok {w g:Lad} {A C:Int} (hw:w.Ok A) (hA:1<=A) (hl:l.Ok B) (hB:1<=B) (hg:g.Ok C) (hC:1<=C):(Lad.gone w l g).Ok (B+C) :=
 Lad.fF (Lad.uk hl) (Lad.tY ⟨A,hA,Lad.uk hw⟩ hg hC) hB hC
theorem Lad.uK (w l g:Lad):(Lad.gone w l g).parts<=l.parts+g.parts:=by
 have h1:=Lad.gD (Lad.low l) (Lad.iY (Lad.low w) g);have h2:=Lad.kI l;have h3:=Lad.iP (Lad.low w) g;unfold Lad.gone;omega
theorem Lad.xq {w g:Lad} (h1:l.deep<=n) (h2:g.deep<=n):(Lad.gone w l g).deep<=n :=
 Lad.iG (Lad.mv h1) (Yb (Lad.jK _ _) h2)
theorem zhe {K:Qn} {y:V} {t:Lad} {σ:L2.St} {H:Hp} (hσ:σ[i]?=some (some y)) (hy:LA K H y t) (q:∀ (ev:V) (H2:Hp),SB [] H H2->LA K H2 ev (Lad.hde t)->Q ev H2) :
  tIf (fun σ H Q=>tVar i σ H fun x H'=>∃ k,TruV K x H' k/\Q k H') (tOp (rIxT K) (tOp (rIxT K) (tVar i) (tC (.int 0))) (tC (.int 0))) (tTup tNil) σ H Q:=by
 obtain ⟨b,ys,rfl,kU,jT⟩:=n4 hy;refine ⟨_,hσ,_,.inr (.inl ⟨ys,kU,Ja⟩),?_⟩;cases t with
 | nil =>
  cases jT;refine iteF ⟨Z0,fun c hc=>q _ _ (SB.new hc _) (HV (SqT.of Qt))⟩
 | cons e m r =>
  rw [show (Lad.cons e m r).ps=(e,m)::r.ps from rfl] at jT;cases jT with
  | @cons y0 yr _ _ h0 hbr =>
  obtain ⟨c,ue,rfl,mK,hle⟩:=sU h0;refine iteT ⟨_,hσ,b,_,_,_,Ja,Ja,kU,atI_nat (j:=0) rfl,c,_,_,_,Ja,Ja,mK,atI_nat (j:=0) rfl,q _ _ SB.refl hle⟩
structure LFitW (l:Lad):Prop where
 deep:l.deep<=29
 parts:l.parts<=900000
 num:∀ p ∈ l.ps,0<=p.2/\p.2 < 2 ^ 2000
theorem LFit.w (h:LFit l):LFitW l:=⟨Yb h.deep (by decide),Yb h.parts (by decide),h.num⟩
def Gr.d5 (b:Bk) (ρ:Str->Lad) (ns:List Str):Gr->Prop
 | .nil=>True
 | .cons k g m r=>(k ∈ ns/\k ∈ b.names/\ρ k ≠ .nil/\LFitW (ρ k)/\LFitW (Gr.rk b ρ g)/\LFitW (Gr.eA b ρ (k,g))/\0<=m/\m < 2 ^ 2000/\((Gr.rkT b ρ (.cons k g m r)).flatMap Lad.ps).length<=1900000)/\Gr.d5 b ρ ns g/\Gr.d5 b ρ ns r
namespace Gr
variable {b:Bk} {ρ:Str->Lad} {ns:List Str}
theorem v8.w:∀ {g:Gr},v8 b ρ ns g->d5 b ρ ns g
 | .nil,_=>trivial
 | .cons k g m r,h=>by
  obtain ⟨⟨h1,h2,h3,h4,h5,h6,h7,h8,h9⟩,hg,hr⟩:=h;exact ⟨⟨h1,h2,h3,h4.w,h5.w,h6.w,h7,h8,Yb h9 (by decide)⟩,v8.w hg,v8.w hr⟩
theorem d5.at:∀ {g:Gr},d5 b ρ ns g->∀ p ∈ g.ps,(p.1.1 ∈ ns/\p.1.1 ∈ b.names/\ρ p.1.1 ≠ .nil/\LFitW (ρ p.1.1)/\LFitW (rk b ρ p.1.2)/\LFitW (eA b ρ p.1)/\0<=p.2/\p.2 < 2 ^ 2000)/\d5 b ρ ns p.1.2
 | .nil,_,p,hp=>nomatch hp
 | .cons k g m r,h,p,hp=>by
  obtain ⟨⟨h1,h2,h3,h4,h5,h6,h7,h8,_⟩,hg,hr⟩:=h;rcases Qv hp with rfl | hp
  ·exact ⟨⟨h1,h2,h3,h4,h5,h6,h7,h8⟩,hg⟩
  ·exact d5.at hr p hp
theorem d5.len:∀ {g:Gr},d5 b ρ ns g->((rkT b ρ g).flatMap Lad.ps).length<=1900000
 | .nil,_=>by simp [rkT]
 | .cons k g m r,h=>h.1.2.2.2.2.2.2.2.2
theorem d5.named:∀ {g:Gr},d5 b ρ ns g->Named ns g
 | .nil,_=>fun x hx=>nomatch hx
 | .cons k g m r,h=>by
  intro x hx;rcases Qv hx with z | hx
  ·rw [z]; exact h.1.1
  ·rcases Qw hx with hx | hx
   ·exact d5.named h.2.1 x hx
   ·exact d5.named h.2.2 x hx
theorem d5.mono {ms:List Str} (h:∀ n ∈ ns,n ∈ ms):∀ {g:Gr},d5 b ρ ns g->d5 b ρ ms g
 | .nil,_=>trivial
 | .cons k g m r,⟨h1,h2,h3⟩=>⟨⟨h _ h1.1,h1.2⟩,d5.mono h h2,d5.mono h h3⟩
def Bd (b:Bk) (ρ:Str->Lad) (P:Nat) (B:Int) (g:Gr):Prop:=∀ x ∈ g.within,(eA b ρ x.1).parts<=P/\(eA b ρ x.1).Ok B
theorem Bd.at {P:Nat} {g:Gr} (h:Bd b ρ P B g) {p:Tr × Int} (hp:p ∈ g.ps):((eA b ρ p.1).parts<=P/\(eA b ρ p.1).Ok B)/\Bd b ρ P B p.1.2:=by
 have hw:∀ x ∈ p::p.1.2.within,x ∈ g.within:=fun x hx=>by
  rw [eE];exact List.mem_flatMap.mpr ⟨p,hp,hx⟩
 exact ⟨h p (hw p (bF ..)),fun x hx=>h x (hw x (bX _ hx))⟩
end Gr
def Wi (K:Qn) (C:Addr):Sp:=fun vs H Q _=>∃ (v u t:V) (b:Bk) (n:Str) (o l:Lad),vs=[v,.str n,u,t]/\fJ K C H v b/\b.length<=1000/\n ∈ b.names/\(LA K H u o/\o ≠ .nil/\LFitW o)/\(LA K H t l/\LFitW l)/\∀ (x:V) (H':Hp),SB [] H H'->LA K H' x (di (b.wide n) o l)->Q x H'
def FH (K:Qn) (C:Addr) (m:Nat):Sp:=fun vs H Q _=>∃ (v t:V) (d:Addr) (b:Bk) (ρ:Str->Lad) (ns:List Str) (k:Str) (g:Gr),vs=[v,.ref d,t]/\fJ K C H v b/\b.length<=1000/\qG K H d ρ ns/\Dp K H t (Gr.aC (k,g))/\g.deep < m/\(k ∈ ns/\k ∈ b.names/\ρ k ≠ .nil/\LFitW (ρ k)/\LFitW (Gr.rk b ρ g))/\Gr.d5 b ρ ns g/\g.parts<=900/\∀ (x:V) (H':Hp),SB [] H H'->LA K H' x (Gr.eA b ρ (k,g))->Q x H'
def Ak (K:Qn) (C:Addr) (m:Nat):Sp:=fun vs H Q _=>∃ (v u:V) (d:Addr) (b:Bk) (ρ:Str->Lad) (ns:List Str) (g:Gr),vs=[v,.ref d,u]/\fJ K C H v b/\b.length<=1000/\qG K H d ρ ns/\GA K H u g/\g.deep < m/\Gr.d5 b ρ ns g/\g.parts<=900/\∀ (x:V) (H':Hp),SB [] H H'->LA K H' x (Gr.rk b ρ g)->Q x H'
theorem zb9 {w:World} {K:Qn} {fd:FuncData} {ps:List Str}:FnOk P w K mg base CX0 k f fd ps (Ak K C 0):=BM fun vs H Q E ⟨_,_,_,_,_,_,_,_,_,_,_,_,h,_⟩=>by omega
def Xd (K:Qn):Sp:=fun vs H Q _=>∃ (v:V) (l:Lad),vs=[v]/\LA K H v l/\l ≠ .nil/\l.parts<=900000/\∀ (x:V) (H':Hp),SB [] H H'->LA K H' x (Lad.low l)->Q x H'
def O3 (K:Qn):Sp:=fun vs H Q _=>∃ (v u:V) (l k:Lad),vs=[v,u]/\LA K H v l/\LA K H u k/\l.deep<=29/\k.deep<=29/\l.parts<=900000/\k.parts<=900000/\∀ (x:V) (H':Hp),SB [] H H'->LA K H' x (Lad.iY l k)->Q x H'
def Vz (K:Qn):Sp:=fun vs H Q _=>∃ (v u y:V) (w l g:Lad),vs=[v,u,y]/\(LA K H v w/\LA K H u l/\LA K H y g)/\(w ≠ .nil/\l ≠ .nil)/\(w.deep<=29/\l.deep<=29/\g.deep<=29)/\(w.parts<=900000/\l.parts<=900000/\g.parts<=900000)/\∀ (x:V) (H':Hp),SB [] H H'->LA K H' x (Lad.gone w l g)->Q x H'
def WQ (K:Qn):Sp:=fun vs H Q _=>∃ (v:V) (l:Lad),vs=[v]/\LA K H v l/\l.parts<=900000/\Q (.int (Lad.Af l)) H
structure Gds (b:Bk) (ρ:Str->Lad) (es:List Str):Prop extends Gr.Goods b ρ es where
 ok:b.Ok
 sub:∀ n ∈ es,n ∈ b.names
 ru:∀ n ∈ es,∀ kd,b.get n=some kd->∀ r ∈ kd.rs,uS b ρ es r/\(gW b ρ r).deep<=31
theorem zfp {es:List Str} (ok:b.Ok) (ow:OwnR b ρ) (eo:EndO b es) (hR:∀ n ∈ b.names,EndK b n->Lad.R (ρ n)/\ρ n ≠ .nil):Gds b ρ es:=by
 have jW:∀ n ∈ es,∀ m ∈ adj b n,m ∈ es:=fun n hn m hm=>(eo.mem m).mpr ⟨Df ok hm,((eo.mem n).mp hn).2.next hm⟩;have JD:∀ n ∈ es,∀ kd,b.get n=some kd->∀ r ∈ kd.rs,∀ x ∈ Ru.within r,x.1.1 ∈ es:=fun n hn kd e r hr x hx=>jW n hn _ (by rw [VZ e]; exact zT hr hx);refine ⟨⟨fun n hn=>hR n ((eo.mem n).mp hn).1 ((eo.mem n).mp hn).2,fun n hn kd e r hr=>?_,fun n hn kd e=>?_⟩,ok,fun n hn=>((eo.mem n).mp hn).1,fun n hn kd e r hr=>?_⟩
 ·obtain ⟨km,rfl⟩:=Bk.get_some e;refine ⟨(ok.named km hr).1,fun x hx=>JD _ hn kd e r hr x (i8 _ hx),fun x hx=>JD _ hn kd e r hr x (mW _ hx)⟩
 ·obtain ⟨km,rfl⟩:=Bk.get_some e;exact ow.own kd km ((eo.mem _).mp hn).2
 ·obtain ⟨km,rfl⟩:=Bk.get_some e;have he:=(eo.mem _).mp hn;have hf:=ow.fit kd km he.2 es (jW _ hn) r hr;exact ⟨hf,Yb (Lad.sN hf.2.2.1 hf.2.2.2.1 (by decide)) (by decide)⟩
def VL (K:Qn) (C:Addr):Sp:=fun vs H Q _=>∃ (v y:V) (d:Addr) (k:Str) (b:Bk) (ρ:Str->Lad) (es:List Str) (t:Lad) (D:Int),vs=[v,.ref d,.str k,y]/\fJ K C H v b/\qG K H d ρ es/\Gds b ρ es/\k ∈ es/\(LA K H y t/\t.Ok D/\1<=D/\t.deep<=29/\t.parts<=900000)/\(ρ k).deep<=29/\t.lt (ρ k)=true /\
 ∀ (p:Addr) (H':Hp) (kd:Kd) (i:Nat) (r:Ru) (n:Int),SB [] H H'->SqT K H' p [.int (i:Nat),.int n]->b.get k=some kd->(iZ::kd.rs)[i]?=some r->0<=n->n<=D->(∀ n',n<=n'->Lad.Le t ((Gr.rk b ρ r.1).bS (Lad.bH (Gr.rk b ρ r.2) n')))->Q (.ref p) H'
def O7 (K:Qn) (H:Hp) (p:Addr) (pl:Pl) (i:Nat) (n:Int):Prop:=∃ a:Addr,SqT K H p [.ref a,.int (i:Nat),.int n]/\SqT K H a (pl.map fun n:Nat=>V.int (n:Int))
def Pu (K:Qn) (C:Addr) (m:Nat):Sp:=fun vs H Q _=>∃ (v z y:V) (d:Addr) (b:Bk) (ρ:Str->Lad) (es:List Str) (k:Str) (g:Gr) (t:Lad) (D E B:Int) (P:Nat),vs=[v,.ref d,z,y]/\fJ K C H v b/\qG K H d ρ es/\Gds b ρ es/\Dp K H z (Gr.aC (k,g))/\g.deep < m/\(k ∈ es/\LFitW (ρ k)/\LFitW (Gr.rk b ρ g)/\fm k)/\Gr.d5 b ρ es g/\((g.parts<=900/\g.deep < 20)/\g.Ok E/\Gr.Bd b ρ P B g) /\
 (LA K H y t/\t.Ok D/\1<=D/\1<=B/\t.deep<=29/\t.parts+P*g.deep<=900000/\D+B*g.deep<=2 ^ 1990)/\t.lt (Gr.eA b ρ (k,g))=true /\
 ∀ (p:Addr) (H':Hp) (pl:Pl) (i:Nat) (r:Ru) (n:Int),SB [] H H'->O7 K H' p pl i n->Gr.qH b ρ (k,g) t pl i r n->n<=D+B*g.deep->Q (.ref p) H'
def FC (K:Qn) (C:Addr) (m:Nat):Sp:=fun vs H Q _=>∃ (v z y:V) (d:Addr) (b:Bk) (ρ:Str->Lad) (es:List Str) (g:Gr) (t:Lad) (D E B:Int) (P:Nat),vs=[v,.ref d,z,y]/\fJ K C H v b/\qG K H d ρ es/\Gds b ρ es/\GA K H z g/\g.deep < m/\Gr.d5 b ρ es g/\(LFitW (Gr.rk b ρ g)/\(g.parts<=900/\g.deep < 20)/\g.Ok E/\Gr.Bd b ρ P B g) /\
 (LA K H y t/\t.Ok D/\1<=D/\1<=B/\t.deep<=29/\t.parts+P*g.deep<=900000/\D+B*g.deep<=2 ^ 1990)/\t.lt (Gr.rk b ρ g)=true /\
 ∀ (p:Addr) (H':Hp) (pl:Pl) (i:Nat) (r:Ru) (n:Int),SB [] H H'->O7 K H' p pl i n->Gr.Reach b ρ g t pl i r n->n<=D+B*g.deep->Q (.ref p) H'
theorem zb1 {w:World} {K:Qn} {fd:FuncData} {ps:List Str}:FnOk P w K mg base (L2.CX P w) k f fd ps (FC K C 0):=zd4 fun vs H Q E ⟨_,_,_,_,_,_,_,_,_,_,_,_,_,_,_,_,_,_,h,_⟩=>by omega
def Us (K:Qn) (a b:Addr):It where
 go:=fun i H=>∃ (xs ys:List V) (x y:V),(SqL K H a xs/\xs[i]?=some x)/\SqT K H b ys/\ys[i]?=some y
 yld:=fun i H v H'=>∃ (T:Addr) (x y:V),v=.ref T/\H T=none/\H'=upd H T (.tup [x,y])/\(∀ xs,SqL K H a xs->xs[i]?=some x)/\∀ ys,SqT K H b ys->ys[i]?=some y
 stop:=fun i H=>∃ xs ys:List V,SqL K H a xs/\SqT K H b ys/\i=min xs.length ys.length
theorem Vo {z TI TO b:Addr} (D:ZipApart z TI TO i1 i2 a b):ZipSep2 z TI TO i1 i2 [i1,a] [i2,b] where
 TIz:=D.TIz
 TOz:=D.TOz
 TITO:=D.TITO
 TIi1:=D.TIi1
 mem1:=bF ..
 zf1:=by simp [D.i1z.symm,D.l1z.symm]
 Tf1:=by simp [D.TOi1,D.l1TO.symm]
 TIi2:=D.TIi2
 mem2:=bF ..
 zf2:=by simp [D.i2z.symm,D.l2z.symm]
 Tf2:=by simp [D.TOi2,D.l2TO.symm]
 sep1_2:=by simp [D.i12,D.l2i1.symm]
 sep2_1:=by simp [D.i12.symm,D.l1i2.symm]
abbrev Zx (z TI TO i1 i2 a b:Addr) (i:Nat) (h:Heap):Prop:=IsZip h z TI TO .none/\IsPair h TI (.ref i1) (.ref i2)/\(∃ x y,IsPair h TO x y)/\h.IsListIter i1 a i/\h.IsTupleIter i2 b i
theorem Wj {z TI TO b:Addr} (st:Zx z TI TO i1 i2 a b i h):∀ c ∈ [z,TI,TO,i1,i2],∃ o,h.get? c=some o/\∀ v,o.data ≠ .cell v:=by
 obtain ⟨hz,Ae,⟨x,y,Bn⟩,⟨o1,e1,_,d1⟩,⟨o2,e2,_,d2⟩⟩:=st;intro c hc;simp only [List.mem_cons,aL,or_false] at hc;rcases hc with rfl | rfl | rfl | rfl | rfl
 ·exact ⟨_,hz,fun v q=>nomatch q⟩
 ·exact ⟨_,Ae,fun v q=>nomatch q⟩
 ·exact ⟨_,Bn,fun v q=>nomatch q⟩
 ·exact ⟨o1,e1,fun v q=>by rw [d1] at q; cases q⟩
 ·exact ⟨o2,e2,fun v q=>by rw [d2] at q; cases q⟩
theorem zcc {w:World} {K:Qn} {b z TI TO:Addr} (D:ZipApart z TI TO i1 i2 a b):Turn P w K (.Tuple elts kk wu) (Us K a b) [z,TI,TO,i1,i2] z (Zx z TI TO i1 i2 a b) where
 mem:=bF ..
 obj:=fun i h st=>Wj st
 keep:=fun i h h' st k=>by
  obtain ⟨hz,Ae,⟨x,y,Bn⟩,h1,h2⟩:=st;exact ⟨k z (by simp) _ hz,k TI (by simp) _ Ae,⟨x,y,k TO (by simp) _ Bn⟩,h1.at fun o q=>k i1 (by simp) o q,h2.at fun o q=>k i2 (by simp) o q⟩
 item:=by
  intro X hP hw hK hc i pins s σ H E I hf st hg;subst hP hw hK;have live:=Wj st;obtain ⟨hz,Ae,⟨x0,y0,Bn⟩,h1,h2⟩:=st;obtain ⟨xs,ys,x,y,⟨F8,hx⟩,F7,hy⟩:=hg;obtain ⟨cn,rv,p,_⟩:=I.list F8;obtain ⟨lu,IH,p2,_⟩:=I.tuple F7;have l1:=rv.length;have l2:=IH.length;have hd:X.A.in1.handled=none:=I.ok.hd hc;have Rr:i < cn.toArray.size:=by
   have:=(Kq hx).1;simp; omega
  have Rq:i < lu.toArray.size:=by
   have:=(Kq hy).1;simp; omega
  have B3:z < s.heap.objs.size:=Heap.lt_size hz;refine wpAny_pyNext_zipD2_item (Vo D) (Draws.list hd i1 a D.l1i1 cn.toArray) (Draws.tuple hd i2 b D.l2i2 lu.toArray) hz Ae Bn ⟨h1,p.isList⟩ ⟨h2,show s.heap.IsTuple b lu.toArray from p2⟩ Rr Rq fun u u2 h' tk e1 e2 z' TO' g1 g2 hT oz hk=>?_;refine ⟨_,rfl,wpAny_letOwnedTupleGo_zip (s:={ s with heap:=h',toks:=tk }) z' fun ON z'' sb=>?_⟩;have tf:ON.get? s.heap.objs.size=some { cls:=.type "tuple",data:=.seq #[u,u2] }:=(sb.2 _ (Nat.ne_of_gt B3)).trans hT;obtain ⟨v1,Oo,r1⟩:=rv.get hx;obtain ⟨v2,hv2,r2⟩:=IH.get hy;have q1:u=v1:=by
   have:cn[i]?=some u:=by simpa using e1
   rw [Oo] at this;exact (Yd this).symm
  have q2:u2=v2:=by
   have:lu[i]?=some u2:=by simpa using e2
   rw [hv2] at this;exact (Yd this).symm
  subst q1 q2;have new:ObjOk X.prog X.w (upd H s.heap.objs.size (.tup [x,y])) ON s.heap.objs.size (.tup [x,y]) :=
   ⟨Z2,[u,u2],.cons r1 (.cons r2 .nil),⟨_,tf,rfl,_,rfl⟩⟩
  have I1:Inv X pins σ (upd H s.heap.objs.size (.tup [x,y])) { s with heap:=ON,toks:=tk } :=
   I.turnedNew (ch:=[z,TI,TO,i1,i2]) (fun c o hb q=>by
    simp only [List.mem_cons,aL,or_false,not_or] at hb;exact (sb.2 c hb.1).trans (hk c o hb.1 hb.2.2.1 hb.2.2.2.1 hb.2.2.2.2 q)) hf (Yc _) new
  refine ⟨.ref s.heap.objs.size,_,I1,Ja,⟨_,x,y,Ja,I.hok.fresh (Yc _),Ja,fun l hl=>by rw [I.list_inj hl F8]; exact hx,fun l hl=>by rw [I.tuple_inj hl F7]; exact hy⟩,⟨z'',?_,⟨u,u2,?_⟩,?_,?_⟩,fun c JX=>?_⟩
  ·exact (sb.2 _ D.TIz).trans (hk _ _ D.TIz D.TITO D.TIi1 D.TIi2 Ae)
  ·exact (sb.2 _ D.TOz).trans TO'
  ·exact g1.1.at fun o q=>(sb.2 _ D.i1z).trans q
  ·exact g2.1.at fun o q=>(sb.2 _ D.i2z).trans q
  ·obtain ⟨o,ho,_⟩:=live c JX;rw [upd_ne (Nat.ne_of_lt (Heap.lt_size ho))];exact (hf c JX).1
 done:=by
  intro X hP hw hK hc i pins s σ H E I hf st hg;subst hP hw hK;obtain ⟨hz,Ae,⟨x0,y0,Bn⟩,h1,h2⟩:=st;obtain ⟨xs,ys,F8,F7,zzj⟩:=hg;obtain ⟨cn,rv,p,_⟩:=I.list F8;obtain ⟨lu,IH,p2,_⟩:=I.tuple F7;have l1:=rv.length;have l2:=IH.length;have hd:X.A.in1.handled=none:=I.ok.hd hc;have s1:cn.toArray.size=cn.length:=by simp
  have s2:lu.toArray.size=lu.length:=by simp
  exact wpAny_pyNext_zipD2_end (Vo D) (Draws.list hd i1 a D.l1i1 cn.toArray) (Draws.tuple hd i2 b D.l2i2 lu.toArray) hz Ae Bn ⟨h1,p.isList⟩ ⟨h2,show s.heap.IsTuple b lu.toArray from p2⟩ (by omega) (by omega) (by omega) fun h' tk hk=>⟨rfl,I.turnedL (ch:=[z,TI,TO,i1,i2]) (fun c o hb q=>by
   simp only [List.mem_cons,aL,or_false,not_or] at hb;exact hk c o hb.1 hb.2.2.1 hb.2.2.2.1 hb.2.2.2.2 q) hf⟩
 self:=fun A i s Q E st h=>wpAny_pyIter_zip st.1 h
def zjy (K:Qn) (ta:TA):TI:=fun σ H R=>ta σ H fun vs H1=>∃ a b xs ys,vs=[.ref a,.ref b]/\SqL K H1 a xs/\SqT K H1 b ys/\R (Us K a b) H1
theorem zfb {X:Cx} {e2:Expr} {ta:TA} {p pos:Pos} (hg:Gl X "zip") (hm:X.mg "zip"=none) (ha:PA X [e,e2] ta)
  (hs:starEach [e,e2] X.env=(false,eval e X.env)::starEach [e2] X.env:=by rfl) (fc:(backTo pos (starEach [e2] X.env)).any (·.1)=false:=by rfl) :
  PI X (.Tuple elts kk wu) (.Call (.Name "zip" p) [e,e2] [] pos) (zjy X.K ta):=by
 refine ⟨fun pins s σ H R I h=>?_⟩;refine Call_ (ld_blt I hg hm PyProof.Rows.boot_zip (PyProof.Rows.callWith_type1 (thn (ha.run pos pins s σ H _ I h) fun us s1 ⟨vs,H1,I1,r1,q1⟩=>?_) hs fc));obtain ⟨a,b,xs,ys,rfl,F8,F7,q⟩:=q1;cases r1 with
 | cons ra rr =>
 cases rr with
 | cons rb rr =>
 cases rr;cases ra;cases rb;obtain ⟨cn,rv,p1,_⟩:=I1.list F8;obtain ⟨lu,IH,p2,_⟩:=I1.tuple F7;have X4:s1.heap.IsTuple b lu.toArray:=p2;have lb:b < s1.heap.objs.size:=by obtain ⟨o,ho,_⟩:=X4; exact Heap.lt_size ho
 refine zip_begins2 (begins_list a cn.toArray) (begins_tuple b lu.toArray) p1.isList X4 fun h' hz Ae Bn c1 c2 oz hk=>wpAny_pyIter_zip hz ?_;have I2:Inv X pins σ H1 { s1 with heap:=h' }:=I1.kept (t':=s1.toks) hk;refine ⟨_,_,_,_,H1,Ja,I2,zcc (PySem.W.ktu_apart s1.heap.objs.size a b p1.lt lb),⟨hz,Ae,⟨_,_,Bn⟩,⟨_,c1,Ja,Ja⟩,⟨_,c2,Ja,Ja⟩⟩,fun c JX=>?_,q⟩;have hle:s1.heap.objs.size<=c:=by
  simp only [List.mem_cons,aL,or_false] at JX;rcases JX with z | z | z | z | z <;> rw [z] <;> first | exact Yc _ | exact Nat.le_add_right _ _
 exact I1.fpOk hle (I1.hok.fresh hle)
theorem zbq {K:Qn} {b:Addr} {ys:List V} (hn:n=min xs.length ys.length):Walk (Us K a b) n (fun H=>SqL K H a xs/\SqT K H b ys) (YPair (fun i=>xs[i]?) (fun i=>ys[i]?)):=by
 subst hn;refine ⟨fun i H hi h=>?_,fun H h=>⟨xs,ys,h.1,h.2,Ja⟩,fun i H x H' hi h y=>?_⟩
 ·have h1:i < xs.length:=by omega
  have h2:i < ys.length:=by omega
  exact ⟨xs,ys,xs[i],ys[i],⟨h.1,Kp h1⟩,h.2,Kp h2⟩
 ·obtain ⟨T,u,u2,e1,e2,e3,e4,e5⟩:=y;exact ⟨T,u,u2,e1,e2,e3,e4 _ h.1,e5 _ h.2⟩
structure LFitL (l:Lad):Prop where
 deep:l.deep<=30
 parts:l.parts<=900000
 num:∀ p ∈ l.ps,0<=p.2/\p.2 < 2 ^ 400000
def Gr.uV (b:Bk) (ρ:Str->Lad) (ns:List Str):Gr->Prop
 | .nil=>True
 | .cons k g m r=>(k ∈ ns/\k ∈ b.names/\ρ k ≠ .nil/\LFitL (ρ k)/\LFitL (Gr.rk b ρ g)/\LFitL (Gr.eA b ρ (k,g))/\0<=m/\m < 2 ^ 400000/\((Gr.rkT b ρ (.cons k g m r)).map Lad.parts).sum<=900000)/\Gr.uV b ρ ns g/\Gr.uV b ρ ns r
namespace Gr
variable {b:Bk} {ρ σ:Str->Lad} {C:Int} {ns:List Str}
theorem jN {x:Nat} (hk:∀ n ∈ ns,(ρ n).Ok (2 ^ x)):∀ {g:Gr},Named ns g->g.Ok (2 ^ 2100)->(∀ l ∈ rkT b ρ g,l.Ok (2 ^ (x+2102*g.parts)))/\∀ y,((rkT b ρ g).map fun l=>Lad.S l y).sum < 2 ^ (x+2102*g.parts)
 | .nil,_,_=>And.intro (fun l hl=>nomatch hl) (fun y=>by
  show (0:Int) < _;have:=iU (x+2102*Gr.nil.parts); omega)
 | .cons k g m r,h,ho=>by
  obtain ⟨_,hg,Ba,si,hr,_⟩:=ho;have qi:k ∈ ns:=h ((k,g),m) (bF ..);obtain ⟨g1,g2⟩:=jN hk (g:=g) (fun x hx=>h x (bX _ (i8 _ hx))) hg;obtain ⟨r1,r2⟩:=jN hk (g:=r) (fun x hx=>h x (bX _ (mW _ hx))) hr;have e1:(Gr.cons k g m r).parts=1+g.parts+r.parts:=rfl;have p0:=iU (x+2102*g.parts);have px:=iU x;have io:(Lad.aT (rkT b ρ g)).Ok (2 ^ (x+2102*g.parts)):=Lad.dY g1 (by omega) (Kw _) g2;have lo:=Lad.iB (w:=b.wide k) (hk k qi) io px p0;have m1:=jD (show x<=x+2102*g.parts by omega);have Jc:(di (b.wide k) (ρ k) (Lad.aT (rkT b ρ g))).Ok (2 ^ (x+2102*g.parts+1)):=lo.mono (by rw [xD]; omega);have to:=Lad.gQ Jc (show 0<=m by omega);have q0:=iU (x+2102*g.parts+1);have hb:2 ^ (x+2102*g.parts+1)*m+2 ^ (x+2102*g.parts+1)<=2 ^ (x+2102*g.parts+2101):=by
   have:(2:Int) ^ (x+2102*g.parts+2101)=2 ^ (x+2102*g.parts+1)*2 ^ 2100:=by rw [<- Int.pow_add]
   rw [this];have h2:(2:Int) ^ (x+2102*g.parts+1)*(m+1)<=2 ^ (x+2102*g.parts+1)*2 ^ 2100:=Int.mul_le_mul_of_nonneg_left (by omega) (by omega);rw [Int.mul_add,Int.mul_one] at h2;exact h2
  have to2:=to.mono hb;have w1:=jD (show x+2102*g.parts+2101<=x+2102*(1+g.parts+r.parts)-1 by omega);have w2:=jD (show x+2102*r.parts<=x+2102*(1+g.parts+r.parts)-1 by omega);have w3:=xD (x+2102*(1+g.parts+r.parts)-1);rw [show x+2102*(1+g.parts+r.parts)-1+1=x+2102*(1+g.parts+r.parts) by omega] at w3;have w0:=iU (x+2102*(1+g.parts+r.parts)-1);rw [e1];refine ⟨fun l hl=>?_,fun y=>?_⟩
  ·rcases Qv hl with rfl | hl
   ·exact to2.mono (by omega)
   ·exact (r1 l hl).mono (by omega)
  ·show Lad.S (Lad.bH (di (b.wide k) (ρ k) (Lad.aT (rkT b ρ g))) m) y+((rkT b ρ r).map fun l=>Lad.S l y).sum < _;have s2:=r2 y;have s3:Lad.S (Lad.bH (di (b.wide k) (ρ k) (Lad.aT (rkT b ρ g))) m) y < 2 ^ (x+2102*g.parts+2101)\/Lad.S (Lad.bH (di (b.wide k) (ρ k) (Lad.aT (rkT b ρ g))) m) y<=0:=by
    rcases Lad.cf to2 y with ⟨h1,_⟩ | ⟨mm,_,h2,_,h4⟩
    ·right; omega
    ·left; omega
   have w4:=iU (x+2102*g.parts+2101);rcases s3 with s3 | s3 <;> omega
theorem l8 {P D x:Nat} (hk:∀ n ∈ ns,n ∈ b.names/\ρ n ≠ .nil/\(ρ n).parts<=P/\(ρ n).deep<=D/\(ρ n).Ok (2 ^ x)) (hP:1<=P):∀ {g:Gr},Named ns g->g.Ok (2 ^ 119)->P*g.parts<=890000->D+g.deep<=28->x+121*g.parts<=2000->d5 b ρ ns g
 | .nil,_,_,_,_,_=>trivial
 | .cons k g m r,h,ho,hp,hd,hx=>by
  have Cm:∀ n ∈ ns,(ρ n).parts<=P/\(ρ n).deep<=D:=fun n hn=>⟨(hk n hn).2.2.1,(hk n hn).2.2.2.1⟩;have Ci:∀ n ∈ ns,(ρ n).Ok (2 ^ x):=fun n hn=>(hk n hn).2.2.2.2;have nm:2 ^ 119<=(2:Int) ^ 2000:=jD (by decide);obtain ⟨qi,vJ⟩:k ∈ ns/\(Named ns g/\Named ns r):=⟨h ((k,g),m) (bF ..),fun x hx=>h x (bX _ (i8 _ hx)),fun x hx=>h x (bX _ (mW _ hx))⟩;obtain ⟨DC,hg,Ba,si,hr,sg⟩:=ho;have ho:(Gr.cons k g m r).Ok (2 ^ 119):=⟨DC,hg,Ba,si,hr,sg⟩;have e1:(Gr.cons k g m r).parts=1+g.parts+r.parts:=rfl;have e2:(Gr.cons k g m r).deep=max (1+g.deep) r.deep:=rfl;rw [e1,Nat.mul_add,Nat.mul_add,Nat.mul_one] at hp;rw [e1] at hx;obtain ⟨s1,s2⟩:=dU Cm h;obtain ⟨g1,g2⟩:=dU Cm vJ.1;obtain ⟨n1,n2⟩:=jM Ci vJ.1 hg;have p0:=iU (x+121*g.parts);have px:=iU x;have io:(Lad.aT (rkT b ρ g)).Ok (2 ^ (x+121*g.parts)):=Lad.dY n1 (by omega) (Kw _) n2;have lo:=(Lad.iB (w:=b.wide k) (Ci k qi) io px p0);have m1:=jD (show x<=x+121*g.parts by omega);have m2:=jD (show x+121*g.parts+1<=2000 by omega);have m3:=xD (x+121*g.parts);obtain ⟨kb,DO,kp,kd,kx⟩:=hk k qi;have num:∀ {l:Lad},l.Ok (2 ^ 2000)->∀ p ∈ l.ps,0<=p.2/\p.2 < 2 ^ 2000:=fun hl p hp=>by
   have:=(Lad.aS.mp hl).1 p hp;exact ⟨by omega,this.2.2⟩
  have ip:(Lad.aT (rkT b ρ g)).parts<=P*g.parts:=Yb (Lad.dB _) g1;have DT:(Lad.aT (rkT b ρ g)).deep<=D+g.deep:=Lad.eQ g2;have lp:=Lad.gz (b.wide k) (ρ k) (Lad.aT (rkT b ρ g));have ld:=Lad.jQ (w:=b.wide k) (o:=ρ k) (l:=Lad.aT (rkT b ρ g)) (n:=D+g.deep) (by omega) DT;refine ⟨⟨qi,kb,DO,⟨by omega,by omega,num (kx.mono (by omega))⟩,⟨by show (Lad.aT (rkT b ρ g)).deep<=29; omega,by show (Lad.aT (rkT b ρ g)).parts<=900000; omega,num (io.mono (by omega))⟩,⟨by show (di (b.wide k) (ρ k) (Lad.aT (rkT b ρ g))).deep<=29; omega,by show (di (b.wide k) (ρ k) (Lad.aT (rkT b ρ g))).parts<=900000; omega,num (lo.mono (by omega))⟩,by omega,by omega,?_⟩,l8 hk hP vJ.1 hg (by omega) (by omega) (by omega),l8 hk hP vJ.2 hr (by omega) (by omega) (by omega)⟩;have key:∀ ls:List Lad,(ls.flatMap Lad.ps).length<=(ls.map Lad.parts).sum:=by
   intro ls
   induction ls with
   | nil=>exact Yc _
   | cons l r ih =>
    rw [List.flatMap_cons,Yf,Ky,List.sum_cons,Lad.cE];have:=l.aN;omega
  have:=key (rkT b ρ (.cons k g m r));rw [e1,Nat.mul_add,Nat.mul_add,Nat.mul_one] at s1;exact Yb (Yb this s1) (by omega)
theorem lB {P D x:Nat} (hk:∀ n ∈ ns,n ∈ b.names/\ρ n ≠ .nil/\(ρ n).parts<=P/\(ρ n).deep<=D/\(ρ n).Ok (2 ^ x)) (hP:1<=P):∀ {g:Gr},Named ns g->g.Ok (2 ^ 2100)->P*g.parts<=890000->D+g.deep<=29->x+2102*g.parts<=400000->uV b ρ ns g
 | .nil,_,_,_,_,_=>trivial
 | .cons k g m r,h,ho,hp,hd,hx=>by
  have Cm:∀ n ∈ ns,(ρ n).parts<=P/\(ρ n).deep<=D:=fun n hn=>⟨(hk n hn).2.2.1,(hk n hn).2.2.2.1⟩;have Ci:∀ n ∈ ns,(ρ n).Ok (2 ^ x):=fun n hn=>(hk n hn).2.2.2.2;have nm:2 ^ 2100<=(2:Int) ^ 400000:=jD (by decide);obtain ⟨qi,vJ⟩:k ∈ ns/\(Named ns g/\Named ns r):=⟨h ((k,g),m) (bF ..),fun x hx=>h x (bX _ (i8 _ hx)),fun x hx=>h x (bX _ (mW _ hx))⟩;obtain ⟨DC,hg,Ba,si,hr,sg⟩:=ho;have ho:(Gr.cons k g m r).Ok (2 ^ 2100):=⟨DC,hg,Ba,si,hr,sg⟩;have e1:(Gr.cons k g m r).parts=1+g.parts+r.parts:=rfl;have e2:(Gr.cons k g m r).deep=max (1+g.deep) r.deep:=rfl;rw [e1,Nat.mul_add,Nat.mul_add,Nat.mul_one] at hp;rw [e1] at hx;obtain ⟨s1,s2⟩:=dU Cm h;obtain ⟨g1,g2⟩:=dU Cm vJ.1;obtain ⟨n1,n2⟩:=jN Ci vJ.1 hg;have p0:=iU (x+2102*g.parts);have px:=iU x;have io:(Lad.aT (rkT b ρ g)).Ok (2 ^ (x+2102*g.parts)):=Lad.dY n1 (by omega) (Kw _) n2;have lo:=(Lad.iB (w:=b.wide k) (Ci k qi) io px p0);have m1:=jD (show x<=x+2102*g.parts by omega);have m2:=jD (show x+2102*g.parts+1<=400000 by omega);have m3:=xD (x+2102*g.parts);obtain ⟨kb,DO,kp,kd,kx⟩:=hk k qi;have num:∀ {l:Lad},l.Ok (2 ^ 400000)->∀ p ∈ l.ps,0<=p.2/\p.2 < 2 ^ 400000:=fun hl p hp=>by
   have:=(Lad.aS.mp hl).1 p hp;exact ⟨by omega,this.2.2⟩
  have ip:(Lad.aT (rkT b ρ g)).parts<=P*g.parts:=Yb (Lad.dB _) g1;have DT:(Lad.aT (rkT b ρ g)).deep<=D+g.deep:=Lad.eQ g2;have lp:=Lad.gz (b.wide k) (ρ k) (Lad.aT (rkT b ρ g));have ld:=Lad.jQ (w:=b.wide k) (o:=ρ k) (l:=Lad.aT (rkT b ρ g)) (n:=D+g.deep) (by omega) DT;refine ⟨⟨qi,kb,DO,⟨by omega,by omega,num (kx.mono (by omega))⟩,⟨by show (Lad.aT (rkT b ρ g)).deep<=30; omega,by show (Lad.aT (rkT b ρ g)).parts<=900000; omega,num (io.mono (by omega))⟩,⟨by show (di (b.wide k) (ρ k) (Lad.aT (rkT b ρ g))).deep<=30; omega,by show (di (b.wide k) (ρ k) (Lad.aT (rkT b ρ g))).parts<=900000; omega,num (lo.mono (by omega))⟩,by omega,by omega,?_⟩,lB hk hP vJ.1 hg (by omega) (by omega) (by omega),lB hk hP vJ.2 hr (by omega) (by omega) (by omega)⟩;rw [e1,Nat.mul_add,Nat.mul_add,Nat.mul_one] at s1;exact Yb s1 (by omega)
end Gr
namespace Gr
theorem mj {g:Gr} {p:Tr × Int} (h:p ∈ g.ps):p ∈ g.within:=by
 rw [eE]; exact List.mem_flatMap.mpr ⟨p,h,bF ..⟩
end Gr
inductive z0i {α β:Type} (F:α->β->Prop):List α->List β->Prop
 | nil:z0i F [] []
 | cons {a:α} {b:β} {as:List α} {bs:List β}:F a b->z0i F as bs->z0i F (a::as) (b::bs)
namespace z0i
variable {α β:Type} {F G:α->β->Prop}
theorem length:∀ {as:List α} {bs:List β},z0i F as bs->as.length=bs.length
 | _,_,.nil=>rfl
 | _,_,.cons _ h=>by rw [Yk,Yk,h.length]
theorem mono:∀ {as:List α} {bs:List β},z0i F as bs->(∀ a b,F a b->G a b)->z0i G as bs
 | _,_,.nil,_=>.nil
 | _,_,.cons h r,g=>.cons (g _ _ h) (r.mono g)
theorem append:∀ {as Zw:List α} {bs Zu:List β},z0i F as bs->z0i F Zw Zu->z0i F (as++Zw) (bs++Zu)
 | _,_,_,_,.nil,h=>h
 | _,_,_,_,.cons h r,g=>.cons h (r.append g)
theorem get:∀ {as:List α} {bs:List β} {i:Nat} {a:α},z0i F as bs->as[i]?=some a->∃ b,bs[i]?=some b/\F a b
 | _,_,_,_,.nil,h=>nomatch h
 | _,_,0,_,.cons h r,e=>by
  cases e;exact ⟨_,Ja,h⟩
 | _,_,i+1,_,.cons h r,e=>r.get (i:=i) e
end z0i
def EO (K:Qn) (H:Hp) (v:V) (k:Kd):Prop:=∃ (t l:Addr) (zs:List V),v=.ref t/\SqT K H t [.bl k.w,.ref l]/\H l=some (.lst zs)/\Bears K H Ru.enc zs k.rs
def uT (H:Hp) (ps:List Addr):Prop:=∀ a ∈ ps,∀ zs,H a ≠ some (.lst zs)
theorem uT.nil {H:Hp}:uT H []:=fun _ h=>nomatch h
theorem uT.one {H:Hp} {d:Addr} (h:H d=some (.dK aQ)):uT H [d]:=fun a ha zs z=>by
 rw [Qy ha,h] at z; cases z
theorem EO.sb {K:Qn} {H H':Hp} {ps:List Addr} {v:V} {k:Kd} (h:EO K H v k) (e:SB ps H H') (hn:uT H ps):EO K H' v k:=by
 obtain ⟨t,l,zs,e1,e2,e3,e4⟩:=h;exact ⟨t,l,zs,e1,e.aP e2,e.keep _ _ e3 (fun z=>hn l z zs e3),e4.sb e Ru.ag⟩
abbrev gj (ns:List Str) (us:List V):List (Key × V):=List.zipWith (fun (n:Str) (u:V)=>((Sum.inr n:Key),u)) ns us
def Gx (K:Qn) (H:Hp) (d:Addr) (b:Bk):Prop:=∃ us:List V,H d=some (.dK (gj b.names us))/\z0i (EO K H) us b
theorem Gx.sb {K:Qn} {H H':Hp} {ps:List Addr} {d:Addr} {b:Bk} (h:Gx K H d b) (e:SB ps H H') (hd:d ∉ ps) (hn:uT H ps):Gx K H' d b:=by
 obtain ⟨us,h1,h2⟩:=h;exact ⟨us,e.keep _ _ h1 hd,h2.mono fun _ _ q=>q.sb e hn⟩
theorem V6 {F:V->Kd->Prop} {n:Str} {kd:Kd}:∀ {b:Bk} {us:List V},z0i F us b->b.get n=some kd->∃ v,valV (gj b.names us) (Sum.inr n)=some v/\F v kd
 | [],_,_,h=>nomatch h
 | k::r,us,hp,h=>by
  cases hp with
  | @cons u _ tD _ h1 h2 =>
  by_cases e:k.n=n
  ·have:kd=k:=by
    unfold Bk.get at h;rw [List.find?_cons_of_pos (by simpa using e)] at h;exact (Yd h).symm
   rw [this];refine ⟨u,?_,h1⟩;show valV (((Sum.inr k.n:Key),u)::_) (Sum.inr n)=some u;rw [e];simp [valV]
  ·have h':Bk.get r n=some kd:=by
    unfold Bk.get at h;rw [List.find?_cons_of_neg (by simpa using e)] at h;exact h
   obtain ⟨v,h3,h4⟩:=V6 h2 h';refine ⟨v,?_,h4⟩;show valV (((Sum.inr k.n:Key),u)::gj (Bk.names r) tD) (Sum.inr n)=some v;unfold valV;rw [List.find?_cons_of_neg (by simp only [decide_eq_true_eq]; exact fun z=>e (Sum.inr.inj z))];exact h3
def sO (b c:Bk):Prop:=∀ n,b.get n=c.get n
theorem zes {n:Str} (hl:us.length=ns.length) (hn:n ∉ ns):putK (gj ns us) (Sum.inr n) x=gj (ns++[n]) (us++[x]):=by
 unfold gj;rw [FJ fun p hp z=>?_,List.zipWith_append (by omega)]
 ·rfl
 ·induction ns generalizing us with
  | nil=>cases hp
  | cons m r ih =>
   cases us with
   | nil=>cases hp
   | cons u us =>
    rw [List.zipWith_cons_cons] at hp;rcases Qv hp with rfl | hp
    ·exact hn (List.mem_cons.mpr (.inl (Sum.inr.inj z).symm))
    ·exact ih (by simp at hl; omega) (fun h=>hn (bX _ h)) hp
def cm (H:Hp) (p c:Addr):Prop:=∃ (ns:List Int) (a l s:Int),H p=some (.dK (gu c a l s))/\H c=some (.lst (ns.map V.int))/\ns.length<=63/\0<=a/\a<=ns.length/\(0<=l/\l < 10 ^ 320)/\(0<=s/\s < 2 ^ 31)
theorem cm.of {H:Hp} (h:Mh H p):∃ c,cm H p c:=h
theorem cm.keep {H H':Hp} {p c:Addr} {ps:List Addr} (h:cm H p c) (e:SB ps H H') (h1:p ∉ ps) (h2:c ∉ ps):cm H' p c:=by
 obtain ⟨ns,a,l,s,a1,a2,a3⟩:=h;exact ⟨ns,a,l,s,e.keep _ _ a1 h1,e.keep _ _ a2 h2,a3⟩
theorem cm.sb {H H':Hp} (h:cm H p c) (e:SB [] H H'):cm H' p c:=h.keep e aL aL
theorem cm.ne {H:Hp} (h:cm H p c) (hq:H q=none):p ≠ q:=by
 obtain ⟨ns,a,l,s,a1,a2,a3⟩:=h;exact fun z=>by rw [z,hq] at a1; cases a1
theorem cm.nc {H:Hp} (h:cm H p c) (hq:H q=none):c ≠ q:=by
 obtain ⟨ns,a,l,s,a1,a2,a3⟩:=h;exact fun z=>by rw [z,hq] at a2; cases a2
theorem cm.some {H:Hp} (h:cm H p c):∀ q ∈ [p],H q ≠ none:=by
 intro q hq;rw [Qy hq];obtain ⟨ns,a,l,s,a1,a2,a3⟩:=h;exact fun z=>by rw [z] at a1; cases a1
theorem cm.FZ {H:Hp} (h:cm H p c):∃ aQ,H p=Option.some (.dK aQ):=by
 obtain ⟨ns,a,l,s,a1,a2,a3⟩:=h;exact ⟨_,a1⟩
def Ai:Sp:=fun vs H Q _=>∃ (p cl:Addr) (m:Int),vs=[.ref p,.int m]/\cm H p cl/\1<=m/\m < 2 ^ 2000/\∀ r H',0<=r->r < m->SB [p] H H'->cm H' p cl->Q (.int r) H'
def WO (K:Qn):Sp:=fun vs H Q _=>∃ (p cl:Addr) (m:Nat),vs=[.ref p,.int (m:Int)]/\cm H p cl/\1<=m/\m<=8/\∀ (L:Addr) (ks:List Str) (H':Hp),SB [p] H H'->cm H' p cl->H L=none->H' L=some (.lst (ks.map V.str))->ks.length=m->ks.Nodup->(∀ k ∈ ks,fm k)->Q (.ref L) H'
def zkn (b:Bk):Prop:=∀ (i:Nat) (k:Kd),b[i]?=some k->∀ r ∈ k.rs,∀ x ∈ Ru.within r,x.1.1 ∈ Bk.names (b.take i)
structure Drawn (b:Bk) (m:Nat):Prop where
 ok:b.Ok
 len:b.length<=m
 ahead:zkn b
 few:∀ k ∈ b,∀ r ∈ k.rs,r.1.parts+r.2.parts<=3
def Wv (K:Qn):Sp:=fun vs H Q _=>∃ (d:Addr) (b:Bk) (t:Bool),vs=[.ref d,.bl t]/\Gx K H d b/\b.length<=100/\∀ (L:Addr) (xs:List V) (H':Hp),SB [] H H'->H L=none->H' L=some (.lst xs)->KdAll K H' [L] xs (if t=true then b.reverse else b)->Q (.ref L) H'
structure LawR (b:Bk) (ρ:Str->Lad) (ns:List Str) (lv:Str->Nat):Prop extends Gr.Goods b ρ ns where
 len:ns.length<=8
 get:∀ n ∈ ns,∃ kd,b.get n=some kd
 few:∀ n ∈ ns,∀ kd,b.get n=some kd->kd.rs.length<=4
 rl:∀ n ∈ ns,∀ kd,b.get n=some kd->∀ r ∈ kd.rs,(Gr.uV b ρ ns r.1/\LFitL (Gr.rk b ρ r.1))/\Gr.uV b ρ ns r.2/\LFitL (Gr.rk b ρ r.2)
 fit:∀ n ∈ ns,LFitL (ρ n)
 down:∀ n ∈ ns,∀ kd,b.get n=some kd->∀ r ∈ kd.rs,∀ x ∈ Ru.within r,lv x.1.1 < lv n
 low:∀ n ∈ ns,lv n < 8
theorem sO.rev (nd:b.names.Nodup):sO b b.reverse:=fun n=>by
 have nr:(Bk.names b.reverse).Nodup:=by
  show (b.reverse.map _).Nodup;rw [List.map_reverse]; exact (List.reverse_perm _).nodup_iff.mpr nd
 cases e:b.get n with
 | some k =>
  obtain ⟨km,kn⟩:=Bk.get_some e;have:=Bk.fD nr (List.mem_reverse.mpr km);rw [kn] at this;exact this.symm
 | none =>
  cases e2:Bk.get b.reverse n with
  | none=>rfl
  | some k =>
   obtain ⟨km,kn⟩:=Bk.get_some e2;exact absurd (Ku ⟨k,List.mem_reverse.mp km,kn⟩) (Bk.get_none e)
structure Made (c:Bk) (lv:Str->Nat):Prop where
 ok:c.Ok
 ends:∀ n ∈ c.names,EndK c n
 own:OwnR c (bT c)
 R:∀ n ∈ c.names,EndK c n->Lad.R (bT c n)/\bT c n ≠ .nil
 xx:∀ n ∈ c.names,bT c n ≠ .nil/\(bT c n).parts<=242/\(bT c n).deep<=14/\(bT c n).Ok (2 ^ 394)
 law:LawR c (bT c) c.names lv
namespace Gr
variable {b:Bk} {ρ:Str->Lad} {ns:List Str}
theorem Dz {x:Nat} (hk:∀ n ∈ ns,(ρ n).Ok (2 ^ x)) {g:Gr} (hn:Named ns g) (ho:g.Ok (2 ^ 2100)):(rk b ρ g).Ok (2 ^ (x+2102*g.parts)):=by
 obtain ⟨n1,n2⟩:=jN (b:=b) hk hn ho;exact Lad.dY n1 (by have:=iU (x+2102*g.parts); omega) (Kw _) n2
theorem yb {x:Nat} (hk:∀ n ∈ ns,(ρ n).Ok (2 ^ x)) {g:Gr} (hn:Named ns g) (ho:g.Ok (2 ^ 119)):(rk b ρ g).Ok (2 ^ (x+121*g.parts)):=by
 obtain ⟨n1,n2⟩:=jM (b:=b) hk hn ho;exact Lad.dY n1 (by have:=iU (x+121*g.parts); omega) (Kw _) n2
theorem ub {P D:Nat} (hk:∀ n ∈ ns,(ρ n).parts<=P/\(ρ n).deep<=D) {g:Gr} (hn:Named ns g):(rk b ρ g).parts<=P*g.parts/\(rk b ρ g).deep<=D+g.deep:=by
 obtain ⟨s1,s2⟩:=dU (b:=b) hk hn;exact ⟨Yb (Lad.dB _) s1,Lad.eQ s2⟩
theorem ui {g:Gr} {x:Tr × Int} (hn:Named ns g) (hx:x ∈ g.within):x.1.1 ∈ ns/\Named ns x.1.2/\x.1.2.parts<=g.parts/\x.1.2.deep<=g.deep:=by
 induction g with
 | nil=>cases hx
 | cons k g m r ih1 ih2 =>
  have h1:Named ns g:=fun y hy=>hn y (bX _ (i8 _ hy));have h2:Named ns r:=fun y hy=>hn y (bX _ (mW _ hy));have e1:(Gr.cons k g m r).parts=1+g.parts+r.parts:=rfl;have e2:(Gr.cons k g m r).deep=max (1+g.deep) r.deep:=rfl;rcases Qv hx with rfl | hx
  ·exact ⟨hn _ (bF ..),h1,by show g.parts<=_; omega,by show g.deep<=_; omega⟩
  ·rcases Qw hx with hx | hx
   ·obtain ⟨a,b,c,d⟩:=ih1 h1 hx; exact ⟨a,b,by omega,by omega⟩
   ·obtain ⟨a,b,c,d⟩:=ih2 h2 hx; exact ⟨a,b,by omega,by omega⟩
end Gr
theorem LFitL.of {x:Nat} (hd:l.deep<=30) (hp:l.parts<=900000) (ho:l.Ok (2 ^ x)) (hx:x<=400000):LFitL l:=⟨hd,hp,fun p h=>by
 have:=(Lad.aS.mp ho).1 p h;exact ⟨by omega,Int.lt_of_lt_of_le this.2.2 (jD hx)⟩⟩
theorem LFitW.of {x:Nat} (hd:l.deep<=29) (hp:l.parts<=900000) (ho:l.Ok (2 ^ x)) (hx:x<=2000):LFitW l:=⟨hd,hp,fun p h=>by
 have:=(Lad.aS.mp ho).1 p h;exact ⟨by omega,Int.lt_of_lt_of_le this.2.2 (jD hx)⟩⟩
theorem Drawn.made {c:Bk} {m:Nat} (h:Drawn b m) (hm:m<=5) (hc:c=b\/c=b.reverse):sO b c/\(∀ n,n ∈ c.names ↔ n ∈ b.names)/\∃ lv,Made c lv:=by
 have same:sO b c:=by
  rcases hc with rfl | rfl
  ·exact fun _=>rfl
  ·exact sO.rev h.ok.nd
 have mem:∀ k,k ∈ c ↔ k ∈ b:=fun k=>by
  rcases hc with rfl | rfl
  ·exact Iff.rfl
  ·exact List.mem_reverse
 have zZ:∀ n,n ∈ c.names ↔ n ∈ b.names:=fun n=>by
  constructor
  ·intro z;obtain ⟨k,hk,e⟩:=Qx z;exact Ku ⟨k,(mem k).mp hk,e⟩
  ·intro z;obtain ⟨k,hk,e⟩:=Qx z;exact Ku ⟨k,(mem k).mpr hk,e⟩
 have len:c.length=b.length:=by
  rcases hc with rfl | rfl
  ·rfl
  ·exact List.length_reverse ..
 have ok:c.Ok:=by
  refine ⟨by have:=h.ok.pos; omega,by have:=h.ok.len; omega,?_,fun k hk=>?_⟩
  ·rcases hc with rfl | rfl
   ·exact h.ok.nd
   ·show (b.reverse.map _).Nodup;rw [List.map_reverse]; exact (List.reverse_perm _).nodup_iff.mpr h.ok.nd
  ·obtain ⟨a1,a2,a3⟩:=h.ok.kd k ((mem k).mp hk);exact ⟨a1,a2,fun r hr=>⟨(a3 r hr).1,fun p hp=>(zZ _).mpr ((a3 r hr).2 p hp)⟩⟩
 let lv:Str->Nat:=fun n=>b.names.idxOf n
 have b5:b.length<=5:=by have:=h.len; omega
 have lvl:∀ n ∈ c.names,lv n < b.length:=fun n hn=>by
  have:=List.idxOf_lt_length_of_mem ((zZ n).mp hn);rw [Ye] at this;exact this
 have kat:∀ n ∈ c.names,∀ kd,c.get n=some kd->b[lv n]?=some kd:=fun n hn kd e=>by
  have A9:=(zZ n).mp hn;have h1:=List.getElem_idxOf (List.idxOf_lt_length_of_mem A9);have hl:lv n < b.length:=lvl n hn;rw [List.getElem_map] at h1;have h2:b.get n=some kd:=(same n).trans e;have h3:=Bk.fD h.ok.nd (List.getElem_mem (l:=b) hl);rw [show (b[lv n]).n=n from h1,h2] at h3;rw [Kp hl];exact h3.symm
 have down:∀ n ∈ c.names,∀ kd,c.get n=some kd->∀ r ∈ kd.rs,∀ x ∈ Ru.within r,lv x.1.1 < lv n:=fun n hn kd e r hr x hx=>by
  have h1:=h.ahead (lv n) kd (kat n hn kd e) r hr x hx;rw [Bk.names,List.map_take] at h1;obtain ⟨j,hj,ej⟩:=List.getElem_of_mem h1;rw [Kx] at hj;rw [List.getElem_take] at ej;have h2:lv x.1.1<=j:=by
   rcases Nat.lt_or_ge j (lv x.1.1) with z | z
   ·have:=List.not_of_lt_findIdx (p:=fun y=>y == x.1.1) (xs:=b.names) (i:=j) z;exact absurd (by simpa using ej) (by simpa using this)
   ·exact z
  omega
 have ends:∀ n ∈ c.names,EndK c n:=by
  have main:∀ (j:Nat) (n:Str),n ∈ c.names->lv n < j->EndK c n:=by
   intro j
   induction j with
   | zero=>intro n _ h; omega
   | succ j ih =>
    intro n hn hj;obtain ⟨kd,eg⟩:=Bk.dW hn;obtain ⟨km,kn⟩:=Bk.get_some eg;subst kn;refine .mk fun m hm=>?_;rw [De ok km] at hm;obtain ⟨r,hr,hm⟩:=List.mem_flatMap.mp hm;obtain ⟨x,hx,rfl⟩:=Qx hm;have h1:=down _ hn kd eg r hr x hx;exact ih _ (((ok.kd kd km).2.2 r hr).2 x hx) (by omega)
  exact fun n hn=>main _ n hn (Nat.lt_succ_self _)
 have b1:=h.ok.pos;have hb:c.length=1\/c.length=2\/c.length=3\/c.length=4\/c.length=5:=by omega
 have e9:(1000000001:Int)<=2 ^ 30:=by decide
 obtain ⟨o1,o2⟩:=zck ok (m:=3) (fun k hk he r hr=>⟨(ok.named hk hr).1.1.mono e9,(ok.named hk hr).1.2.1.mono e9,h.few k ((mem k).mp hk) r hr⟩) (by rcases hb with e | e | e | e | e <;> rw [e] <;> decide) (by rcases hb with e | e | e | e | e <;> rw [e] <;> decide) (by rcases hb with e | e | e | e | e <;> rw [e] <;> decide);have R:∀ n ∈ c.names,EndK c n->Lad.R (bT c n)/\bT c n ≠ .nil:=fun n hn he=>zev ok he hn;have xx:∀ n ∈ c.names,bT c n ≠ .nil/\(bT c n).parts<=242/\(bT c n).deep<=14/\(bT c n).Ok (2 ^ 394):=fun n hn=>by
  have z:=o2 n hn (ends n hn);refine ⟨z.ne,Yb z.parts ?_,Yb z.deep ?_,z.ok.mono (jD ?_)⟩
  ·rcases hb with e | e | e | e | e <;> rw [e] <;> decide
  ·rcases hb with e | e | e | e | e <;> rw [e] <;> decide
  ·rcases hb with e | e | e | e | e <;> rw [e] <;> decide
 have sm:∀ n ∈ c.names,(bT c n).parts<=242/\(bT c n).deep<=14:=fun n hn=>⟨(xx n hn).2.1,(xx n hn).2.2.1⟩;have nu:∀ n ∈ c.names,(bT c n).Ok (2 ^ 394):=fun n hn=>(xx n hn).2.2.2;have Zj:∀ {g:Gr},g.Ok 1000000001->Gr.Named c.names g->g.parts<=4->Gr.uV c (bT c) c.names g/\LFitL (Gr.rk c (bT c) g):=fun {g} ho hn hp=>by
  have hd:=qL g;have Ox:g.Ok (2 ^ 2100):=ho.mono (Int.le_trans e9 (jD (by decide)));have z:=Gr.ub (b:=c) sm hn;have zp:242*g.parts<=242*4:=Nat.mul_le_mul_left _ hp;exact ⟨Gr.lB (fun n hn=>⟨hn,xx n hn⟩) (by decide) hn Ox (by omega) (by omega) (by omega),LFitL.of (by omega) (by omega) (Gr.Dz nu hn Ox) (by omega)⟩
 refine ⟨same,zZ,lv,ok,ends,o1,R,xx,⟨⟨fun n hn=>R n hn (ends n hn),fun n hn kd e r hr=>?_,fun n hn kd e=>?_⟩,?_,fun n hn=>Bk.dW hn,fun n hn kd e=>?_,fun n hn kd e r hr=>?_,fun n hn=>?_,down,fun n hn=>?_⟩⟩
 ·exact ok.named (Bk.get_some e).1 hr
 ·obtain ⟨km,rfl⟩:=Bk.get_some e;exact Ip ok km (ends _ hn)
 ·rw [Ye]; omega
 ·exact (ok.kd kd (Bk.get_some e).1).2.1
 ·obtain ⟨rJ,n1,n2⟩:=ok.named (Bk.get_some e).1 hr;have rp:=rJ.2.2;exact ⟨Zj rJ.1 n1 (by omega),Zj rJ.2.1 n2 (by omega)⟩
 ·exact LFitL.of (Yb (xx n hn).2.2.1 (by decide)) (Yb (xx n hn).2.1 (by decide)) (nu n hn) (by decide)
 ·have:=lvl n hn; omega
namespace Made
variable {c:Bk} {lv:Str->Nat}
structure Grv (c:Bk) (g:Gr):Prop where
 yan:Gr.uV c (bT c) c.names g
 lfL:LFitL (Gr.rk c (bT c) g)
 Ts:∀ ns,(∀ n ∈ c.names,EndK c n->n ∈ ns)->Gr.d5 c (bT c) ns g
 lfW:LFitW (Gr.rk c (bT c) g)
 bd:Gr.Bd c (bT c) 4000 (2 ^ 1900) g
 ok:(Gr.rk c (bT c) g).Ok (2 ^ 1900)
 parts:(Gr.rk c (bT c) g).parts<=4000
 deep:(Gr.rk c (bT c) g).deep<=26
theorem grv (M:Made c lv) {g:Gr} (ho:g.Ok (2 ^ 119)) (hn:Gr.Named c.names g) (hp:g.parts<=12) (hd:g.deep<=12):Grv c g:=by
 have sm:∀ n ∈ c.names,(bT c n).parts<=242/\(bT c n).deep<=14:=fun n hn=>⟨(M.xx n hn).2.1,(M.xx n hn).2.2.1⟩;have nu:∀ n ∈ c.names,(bT c n).Ok (2 ^ 394):=fun n hn=>(M.xx n hn).2.2.2;have Ox:g.Ok (2 ^ 2100):=ho.mono (jD (by decide));obtain ⟨z1,z2⟩:=Gr.ub (b:=c) sm hn;have oX:=Gr.yb (b:=c) nu hn ho;have zp:242*g.parts<=242*12:=Nat.mul_le_mul_left _ hp;refine ⟨Gr.lB (fun n hn=>⟨hn,M.xx n hn⟩) (by decide) hn Ox (by omega) (by omega) (by omega),LFitL.of (by omega) (by omega) oX (by omega),fun ns hs=>Gr.d5.mono (fun n hn=>hs n hn (M.ends n hn)) (Gr.l8 (ns:=c.names) (fun n hn=>⟨hn,M.xx n hn⟩) (by decide) hn ho (by omega) (by omega) (by omega)),LFitW.of (by omega) (by omega) oX (by omega),fun x hx=>?_,oX.mono (jD (by omega)),by omega,by omega⟩;obtain ⟨a1,a2,a3,a4⟩:=Gr.ui hn hx;have xo:=(Iz ho x hx).2.1;obtain ⟨y1,y2⟩:=Gr.ub (b:=c) sm a2;have yX:=Gr.yb (b:=c) nu a2 xo;have lp:=Lad.gz (c.wide x.1.1) (bT c x.1.1) (Gr.rk c (bT c) x.1.2);have lo:=Lad.iB (w:=c.wide x.1.1) (nu _ a1) yX (iU _) (iU _);have yp:242*x.1.2.parts<=242*12:=Nat.mul_le_mul_left _ (by omega);have q1:=(sm _ a1).1;refine ⟨by show (di _ _ _).parts<=4000; omega,lo.mono ?_⟩;have m1:=jD (show 394<=1899 by decide);have m2:=jD (show 394+121*x.1.2.parts<=1899 by omega);have m3:=xD 1899;omega
end Made
theorem fJ.vv {K:Qn} {H H':Hp} (h:fJ K C H v b) (hp:cm H p c) (s:SB [p] H H'):fJ K C H' v b:=by
 obtain ⟨a,dx,d1,d2,us,rfl,h1,h2,h3,h4⟩:=h;obtain ⟨ns,at_,l,sd,a1,a2,a3⟩:=hp;have n1:a ≠ p:=fun z=>by rw [z,a1] at h1; cases h1
 have n2:d1 ≠ p:=fun z=>by
  rw [z,a1] at h2;have e:gu c at_ l sd=b.lT:=by injection (Yd h2)
  have e2:=congrArg (fun x=>x[0]?) e;cases b with
  | nil=>cases e2
  | cons k r =>
   have e3:some ((Sum.inr "cells":Key),V.ref c)=some ((Sum.inr k.n:Key),V.bl k.w):=e2
   injection e3 with e3
   injection e3 with e4 e5
   cases e5
 have n3:d2 ≠ p:=fun z=>by
  rw [z,a1] at h3;have e:gu c at_ l sd=b.i6 us:=by injection (Yd h3)
  cases h4 with
  | nil=>cases e
  | cons x1 r1 =>
   cases r1 with
   | nil =>
    have e2:=congrArg (fun x=>x[1]?) e;have e3:some ((Sum.inr wa:Key),V.int at_)=none:=e2;cases e3
   | cons x2 r2 =>
    have e2:=congrArg (fun x=>x[1]?) e;have e3:some ((Sum.inr wa:Key),V.int at_)=some (_,_):=e2
    injection e3 with e3
    injection e3 with e4 e5
    rw [<- e5] at x2;cases x2
 exact ⟨a,dx,d1,d2,us,Ja,s.keep _ _ h1 (by simpa using n1),s.keep _ _ h2 (by simpa using n2),s.keep _ _ h3 (by simpa using n3),h4.sb s Kd.dJ⟩
namespace Gr
variable {b:Bk} {ρ:Str->Lad} {ns:List Str} {C F n:Int} {g X fr:Gr} {p:Tr × Int}
structure Goods0 (b:Bk) (ρ:Str->Lad) (ns:List Str):Prop where
 rt:∀ n ∈ ns,Lad.R (ρ n)/\ρ n ≠ .nil
 nm:∀ n ∈ ns,∀ kd,b.get n=some kd->∀ r ∈ kd.rs,dC r/\Named ns r.1/\Named ns r.2
 le:∀ n ∈ ns,∀ kd,b.get n=some kd->∀ r ∈ iZ::kd.rs,Lad.Le (gW b ρ r) (ρ n)
theorem pX (G:Goods0 b ρ ns) {t:Tr} (hk:t.1 ∈ ns) (ho:t.2.Ok C) (hn:Named ns t.2):Lad.R (eA b ρ t) :=
 (G.rt _ hk).1.di (lj ho (RN.named G.rt hn))
theorem mT (G:Goods0 b ρ ns) (ho:g.Ok C) (hn:Named ns g):Lad.R (rk b ρ g):=lj ho (RN.named G.rt hn)
theorem ya (G:Goods0 b ρ ns) (h:g.Ok C) (hn:Named ns g) (hp:p ∈ g.ps):rk b ρ g=(rk b ρ (wo g p.1 1)).bS (eA b ρ p.1):=by
 obtain ⟨h1,h2⟩:=aE.mp hn p hp;refine (mT G h hn).ext ((mT G (fw h (by decide)) (cC hn _ _)).bS (pX G h1 (bE h hp).2.1 h2)) fun x=>?_;rw [Lad.cZ,u9 h hp]; omega
theorem rK (G:Goods0 b ρ ns) (h:g.Ok C) (hn:Named ns g) (hX:X.Ok F) (hF:1<=F) (J8:Named ns X) (hp:p ∈ g.ps):rk b ρ (kf (wo g p.1 1) X)=(rk b ρ (wo g p.1 1)).bS (rk b ρ X):=by
 have c2:=mU h hp;refine (mT G (gT (fw h (by decide)) hX (by omega) hF) (dM (cC hn _ _) J8)).ext ((mT G (fw h (by decide)) (cC hn _ _)).bS (mT G hX J8)) fun x=>?_;rw [Lad.cZ,Dj h hp,u9 h hp]
theorem AE (G:Goods0 b ρ ns) {t:Tr} {m:Int} (h1:fm t.1) (h2:t.2.Ok C) (hk:t.1 ∈ ns) (hn:Named ns t.2) (hm:1<=m) (hC:m < C):rk b ρ (one t m)=Lad.bH (eA b ρ t) m:=by
 have rt:=pX G hk h2 hn;have e:rk b ρ (one t m)=(Lad.bH (eA b ρ t) m).bS (rk b ρ .nil):=vq (C:=C) (me h1 h2 hm hC) (RN.named G.rt (gv hk hn m));rw [e,fR];obtain ⟨B,hB,hb⟩:=rt.bH (m:=m) (by omega);exact Lad.j0 hb
theorem AD (G:Goods0 b ρ ns) (hn:0<=n) (uH:fr.Ok F) (hF:1<=F) (Eb:Named ns fr) (h:g.Ok C) (hg:Named ns g) {i:Nat} {r:Pl} {k:Str} (ep:g.ps[i]?=some p) (hk:bareAt g (i::r)=some k) :
  rk b ρ (stk b n fr (i::r) g).1=(rk b ρ (wo g p.1 1)).bS (CI b ρ n fr r p):=by
 have hp:=Qu ep;unfold CI;by_cases hr:r=[]
 ·subst hr;rw [if_pos rfl,fq ep];exact rK G h hg uH hF Eb hp
 ·rw [if_neg hr,c5 ep hr];obtain ⟨p',e',hb⟩:=bB hr hk;rw [ep] at e';cases e';obtain ⟨c1,c2,c3,c4⟩:=iT (b:=b) hn uH hF Eb h hg hp hb;have hf:=b.ju p.1.1 hn;have c2p:=mU h hp;have ho:=me (m:=1+b.far p.1.1 n) c1 c2 (by omega) (by omega);show rk b ρ (kf (wo g p.1 1) (one (chg b n fr r p) (1+b.far p.1.1 n)))=_;rw [rK G h hg ho (by omega) (gv c3 c4 _) hp,AE G c1 c2 c3 c4 (by omega) (by omega)]
theorem BA (G:Goods0 b ρ ns) {k:Str} {kd:Kd} (hk:k ∈ ns) (e:b.get k=some kd) {r:Ru} (hr:r ∈ iZ::kd.rs):Lad.Le (gW b ρ r) (ρ k):=G.le k hk kd e r hr
theorem wJ (G:Goods0 b ρ ns) {k:Str} {kd:Kd} (hk:k ∈ ns) (e:b.get k=some kd) {r:Ru} (hr:r ∈ iZ::kd.rs):dC r/\Named ns r.1/\Named ns r.2:=by
 rcases Qv hr with z | z
 ·rw [z]; exact yi
 ·exact G.nm k hk kd e r z
theorem uJ (G:Goods0 b ρ ns) {k:Str} {kd:Kd} (hk:k ∈ ns) (e:b.get k=some kd) {r:Ru} (hr:r ∈ iZ::kd.rs) (hn:0<=n) :
  (hO r n).Ok (1000000001*n+2000000002)/\Named ns (hO r n)/\rk b ρ (hO r n)=(rk b ρ r.1).bS (Lad.bH (rk b ρ r.2) n)/\Lad.R (rk b ρ r.1)/\Lad.R (rk b ρ r.2):=by
 obtain ⟨r1,r2,r3⟩:=wJ G hk e hr;refine ⟨qu r1 hn,dM r2 (iQ r3 n),yc r1 hn G.rt r2 r3,mT G r1.1 r2,mT G r1.2.1 r3⟩
theorem wL (G:Goods0 b ρ ns) {k:Str} (hk:k ∈ ns):eA b ρ (k,.nil)=ρ k:=by
 show di (b.wide k) (ρ k) (rk b ρ .nil)=ρ k;rw [fR];exact Lad.p6 (G.rt k hk).2
theorem oh (G:Goods0 b ρ ns) {k:Str} {kd:Kd} {r:Ru} (e:b.get k=some kd) (hr:r ∈ iZ::kd.rs) (hn:0<=n):∀ {pl:Pl} {g:Gr},g.Ok C->Named ns g->bareAt g pl=some k->(rk b ρ (stk b n (hO r n) pl g).1).lt (rk b ρ g)=true
 | [],g,_,_,h=>nomatch h
 | i::pl,g,ho,hg,hb=>by
  have hex:∃ p,g.ps[i]?=some p:=by
   cases hx:g.ps[i]? with
   | none=>rw [bareAt,hx] at hb; cases hb
   | some p=>exact ⟨p,Ja⟩
  obtain ⟨p,ep⟩:=hex;have hp:=Qu ep;obtain ⟨n1,n2⟩:=aE.mp hg p hp;obtain ⟨o1,o2,_⟩:=bE ho hp;have hk:k ∈ ns:=eS hg hb;obtain ⟨f1,f2,f3,f4,f5⟩:=uJ (n:=n) G hk e hr hn;have f6:(1:Int)<=1000000001*n+2000000002:=by omega
  rw [AD G hn f1 f6 f2 ho hg ep hb,ya G ho hg hp];have rW:=mT G (fw (t:=p.1) (m:=1) ho (by decide)) (cC hg p.1 1);have rt:=pX G n1 o2 n2;unfold CI;by_cases fc:pl=[]
  ·subst fc;rw [if_pos rfl];obtain ⟨p',e',z⟩:=cO hb;rw [ep] at e';cases e';refine Lad.qx rW (mT G f1 f2) rt ?_;rw [z,wL G hk,f3];exact Lad.IZ (Lad.zv f4 f5 hn) (BA G hk e hr)
  ·rw [if_neg fc];obtain ⟨p',e',Ad⟩:=bB fc hb;rw [ep] at e';cases e';obtain ⟨c1,c2,c3,c4⟩:=iT (b:=b) hn f1 f6 f2 ho hg hp Ad;have hf:=b.ju p.1.1 hn;refine Lad.qx rW ((pX G c3 c2 c4).bH (by omega)) rt ?_;have ih:=oh G e hr hn o2 n2 Ad;have rh:=mT G o2 n2;have IJ:=mT G c2 c4;show (Lad.bH (di (b.wide p.1.1) (ρ p.1.1) (rk b ρ (chg b n (hO r n) pl p).2)) (1+b.far p.1.1 n)).lt (di (b.wide p.1.1) (ρ p.1.1) (rk b ρ p.1.2))=true;obtain ⟨ro,FX⟩:=G.rt _ n1;rw [yV];cases hw:b.wide p.1.1 with
   | true =>
    rw [if_pos rfl];cases hq:ρ p.1.1 with
    | nil=>exact absurd hq FX
    | cons e0 m0 r0 =>
     rw [hq] at ro;exact Lad.wk ro rh IJ ih hn
   | false =>
    rw [if_neg (by decide),Int.add_zero,Lad.lN (ro.di IJ)];exact Lad.DN ro IJ rh FX ih
end Gr
namespace Gr
variable {b:Bk} {ρ:Str->Lad} {ns:List Str} {C F n:Int} {g X fr:Gr} {p:Tr × Int}
theorem Goods0.of {b:Bk} {ρ:Str->Lad} (ok:b.Ok) (hR:RB b ρ) (nf:OT b ρ):Goods0 b ρ b.names:=⟨hR,fun n hn kd e r hr=>ok.named (Bk.get_some e).1 hr,fun n hn kd e r hr=>by
 obtain ⟨hk,rfl⟩:=Bk.get_some e;rcases Qv hr with z | z
 ·rw [z,show gW b ρ iZ=Lad.cV from HQ b ρ];exact Lad.Dk (hR _ hn).1 (hR _ hn).2
 ·exact nf kd hk r z⟩
end Gr
theorem zim {n:Str} (ul:us.length=ns.length) (hn:n ∉ ns):putK (zk ns us) (Sum.inr n) x=zk (ns++[n]) (us++[x]):=by
 rw [FJ fun p hp z=>?_]
 ·unfold zk;rw [List.zipWith_append (by omega)]; rfl
 ·have:p.1 ∈ (zk ns us).map (·.1):=Ku ⟨p,hp,rfl⟩;rw [HW ul,z] at this;obtain ⟨m,hm,e⟩:=Qx this;exact hn (by rw [<- Sum.inr.inj e]; exact hm)
structure LeastOut (P:Str->Prop) (g:Gr) (n:Str):Prop where
 mem:n ∈ g.within.map (·.1.1)
 out:P n
 low:∀ m ∈ g.within.map (·.1.1),P m->¬ m.cps.toList < n.cps.toList
def Iy (K:Qn) (C N:Addr):Sp:=fun vs H Q E=>∃ (v w:V) (b:Bk) (g:Gr) (ns:List Str),vs=[v,w]/\fJ K C H v b/\GA K H w g/\b.length<=60/\g.deep<=68/\g.parts<=3000/\Gr.Named ns g/\ns.length<=60/\(Gr.Named b.names g->∀ H',SB [] H H'->Q .non H') /\
 ∀ n,LeastOut (fun m=>m ∉ b.names) g n->∀ (d:Addr) (H':Hp),SB [] H H'->H d=none->H' d=some (.xd [("kind",.str n)])->E (.ref N) (some d) H'
def ND (K:Qn) (C N EE:Addr):Sp:=fun vs H Q E=>∃ (v w:V) (b:Bk) (g:Gr),vs=[v,w]/\fJ K C H v b/\b.Ok/\GA K H w g/\g.deep<=68/\g.parts<=3000/\Gr.Named b.names g/\((∀ x ∈ g.within,EndK b x.1.1)->∀ H',SB [] H H'->Q .non H') /\
 ∀ n,LeastOut (fun m=>¬ EndK b m) g n->∀ (d:Addr) (H':Hp),SB [] H H'->H d=none->H' d=some (.xd [("kind",.str n)])->E (.ref EE) (some d) H'
theorem Xp {ss:List Str} (h:sortedS ss=true):∀ (i:Nat),sortedS (ss.drop i)=true
 | 0=>h
 | i+1=>by
  have ih:=Xp h i;cases e:ss.drop i with
  | nil=>rw [List.drop_eq_nil_iff] at e; rw [List.drop_eq_nil_iff.mpr (by omega)]; rfl
  | cons x r =>
   rw [e] at ih;have:ss.drop (i+1)=r:=by rw [<- List.drop_drop,e]; rfl
   rw [this]; exact z8s ih
theorem LeastOut.at {P:Str->Prop} {g:Gr} {ss:List Str} (so:SrtOf ss (g.within.map (·.1.1))) {i:Nat} {n:Str} (en:ss[i]?=some n) (hp:P n) (hb:∀ m ∈ ss.take i,¬ P m):LeastOut P g n:=⟨(so.mem n).mp (Qu en),hp,fun m hm hP=>by
 have hm:=(so.mem m).mpr hm;rw [<- List.take_append_drop i ss] at hm;rcases Qw hm with z | z
 ·exact absurd hP (hb m z)
 ·obtain ⟨hi,e⟩:=Kq en;have hd:=Xp so.srt i;rw [List.drop_eq_getElem_cons hi,e] at z hd;rcases Qv z with z | z
  ·rw [z]; exact List.lt_irrefl _
  ·exact Xj hd m z⟩
def P6 (K:Qn) (C N EE NR:Addr):Sp:=fun vs H Q E=>∃ (v z y:V) (b:Bk) (g:Gr) (ns:List Str),vs=[v,z,y]/\fJ K C H v b/\b.Ok/\GA K H z g/\g.deep<=68/\g.parts<=3000/\Gr.Named ns g/\ns.length<=60 /\
 (∀ n,LeastOut (fun m=>m ∉ b.names) g n->∀ (d:Addr) (H':Hp),SB [] H H'->H d=none->H' d=some (.xd [("kind",.str n)])->E (.ref N) (some d) H') /\
 (Gr.Named b.names g->(∀ n,LeastOut (fun m=>¬ EndK b m) g n->∀ (d:Addr) (H':Hp),SB [] H H'->H d=none->H' d=some (.xd [("kind",.str n)])->E (.ref EE) (some d) H') /\
  ((∀ x ∈ g.within,EndK b x.1.1)->∃ (ρ:Str->Lad) (t:Lad) (D F B:Int) (P:Nat),OwnR b ρ/\(∀ n ∈ b.names,EndK b n->Lad.R (ρ n)/\ρ n ≠ .nil)/\(g.deep < 20/\g.parts<=900/\g.Ok F)/\((∀ ns,(∀ n ∈ b.names,EndK b n->n ∈ ns)->Gr.d5 b ρ ns g)/\LFitW (Gr.rk b ρ g)/\Gr.Bd b ρ P B g) /\
   (LA K H y t/\t.deep<=29/\(t.lt (Gr.rk b ρ g)=true->t.Ok D/\1<=D/\1<=B/\t.parts+P*g.deep<=900000/\D+B*g.deep<=2 ^ 1990)) /\
   (t.lt (Gr.rk b ρ g)=true->∀ (p:Addr) (H':Hp) (pl:Pl) (i:Nat) (r:Ru) (n:Int),SB [] H H'->O7 K H' p pl i n->Gr.Reach b ρ g t pl i r n->n<=D+B*g.deep->Q (.ref p) H')/\(t.lt (Gr.rk b ρ g)=false->∀ H',SB [] H H'->E (.ref NR) none H')))
def VH (K:Qn) (C N EE:Addr):Sp:=fun vs H Q E=>∃ (v w:V) (b:Bk) (ρ:Str->Lad) (g:Gr),vs=[v,w]/\fJ K C H v b/\b.Ok/\OwnR b ρ/\GA K H w g/\g.deep < 20/\g.parts<=900/\Gr.Named b.names g/\(∀ x ∈ g.within,EndK b x.1.1)/\(∀ ns,(∀ n ∈ b.names,EndK b n->n ∈ ns)->Gr.d5 b ρ ns g)/\∀ (x:V) (H':Hp),SB [] H H'->LA K H' x (Gr.rk b ρ g)->Q x H'
abbrev Fa:=Pl × Nat × Int
def fl (b:Bk) (g:Gr) (f:Fa):Gr × Pl:=match Gr.bareAt g f.1 with
 | none=>(g,[])
 | some k=>match b.get k with
  | none=>(g,[])
  | some kd=>match (iZ::kd.rs)[f.2.1]? with
   | none=>(g,[])
   | some r=>Gr.stk b f.2.2 (Gr.hO r f.2.2) f.1 g
structure FlAt (b:Bk) (g:Gr) (f:Fa) (k:Str) (kd:Kd) (r:Ru):Prop where
 bare:Gr.bareAt g f.1=some k
 get:b.get k=some kd
 rule:(iZ::kd.rs)[f.2.1]?=some r
 n0:0<=f.2.2
 n1:f.2.2 < 10 ^ 59
theorem FlAt.eq {g:Gr} {f:Fa} {k:Str} {kd:Kd} (h:FlAt b g f k kd r):fl b g f=Gr.stk b f.2.2 (Gr.hO r f.2.2) f.1 g:=by
 unfold fl; rw [h.bare]; dsimp only; rw [h.get]; dsimp only; rw [h.rule]
structure Std (b:Bk) (m:Nat) (g:Gr):Prop where
 ok:g.Ok (10 ^ 30+1+(m:Int)*10 ^ 70)
 deep:g.deep<=60
 parts:g.parts<=2000
 nm:Gr.Named b.names g
theorem FlAt.facts (ok:b.Ok) {g:Gr} {f:Fa} {k:Str} {kd:Kd} {r:Ru} (h:FlAt b g f k kd r):dC r/\(∀ p ∈ Ru.within r,p.1.1 ∈ b.names)/\f.2.2 < 2 ^ 900:=by
 obtain ⟨km,ekn⟩:=Bk.get_some h.get;obtain ⟨_,_,rr⟩:=ok.kd kd km;exact ⟨VT (fun r hr=>(rr r hr).1) h.rule,zau (fun r hr=>(rr r hr).2) h.rule,Int.lt_trans h.n1 (by decide +kernel)⟩
theorem zez {K:Qn} {NP NR NN TG:Addr} {H:Hp} {w:V} {g:Gr} {m:Nat} {f:Fa} {k:Str} {kd:Kd} (hv:fJ K C H v b) (ok:b.Ok) (hw:GA K H w g) (st:Std b m g) (ha:SqT K H a (f.1.map fun n:Nat=>V.int (n:Int))) (h:FlAt b g f k kd r)
  (q:Dc (fl b g f).1->∀ (t:Addr) (H':Hp),SB [] H H'->H t=none->Dp K H' (.ref t) (OO (fl b g f))->Q (.ref t) H') (qE:¬ Dc (fl b g f).1->∀ H',SB [] H H'->E (.ref TG) none H'):Ij K C NP NR NN TG [v,w,.ref a,.int (f.2.1:Nat),.int f.2.2] H Q E:=by
 rw [h.eq] at q qE;exact zc2 rfl hv ok hw st.ok st.deep st.parts st.nm ha h.bare h.get h.rule h.n0 (h.facts ok).2.2 q qE
def Xe (K:Qn):Sp:=fun vs H Q _=>∃ (v:V) (pa:Addr) (g:Gr) (pl:Pl) (k:Str),vs=[v,.ref pa]/\GA K H v g/\SqT K H pa (pl.map fun n:Nat=>V.int (n:Int))/\Gr.bareAt g pl=some k/\Q (.str k) H
instance strOrd:Orderly PyData.str where
 al a b:=by simp [alike]
 eq a b:=by simp [PyData.eqv,Gr.sb]
theorem zf0 {a b:Str} (h1:¬ a.cps.toList < b.cps.toList) (h2:¬ b.cps.toList < a.cps.toList):a=b:=by
 have e1:dataLt (.str a) (.str b)=false:=by rw [dataLt_str]; exact Qz h1
 have e2:dataLt (.str b) (.str a)=false:=by rw [dataLt_str]; exact Qz h2
 exact Classical.byContradiction fun z=>by
  have:=HS (enc:=PyData.str) z e1;rw [e2] at this; cases this
theorem LeastOut.one {P:Str->Prop} {g:Gr} {n m:Str} (h1:LeastOut P g n) (h2:LeastOut P g m):n=m:=zf0 (h2.low n h1.mem h1.out) (h1.low m h2.mem h2.out)
theorem LeastOut.not {g:Gr} {n:Str} (h:LeastOut (fun m=>m ∉ b.names) g n) (hn:Gr.Named b.names g):False:=by
 obtain ⟨x,hx,e⟩:=Qx h.mem;exact h.out (e ▸ hn x hx)
inductive Ho where
 | kind (n:Str)
 | endl (n:Str)
 | fine
inductive HDue (b1:Bk) (g1:Gr) (b2:Bk) (g2:Gr):Ho->Prop
 | k1 {n:Str}:LeastOut (fun m=>m ∉ b1.names) g1 n->HDue b1 g1 b2 g2 (.kind n)
 | k2 {n:Str}:Gr.Named b1.names g1->LeastOut (fun m=>m ∉ b2.names) g2 n->HDue b1 g1 b2 g2 (.kind n)
 | e1 {n:Str}:Gr.Named b1.names g1->Gr.Named b2.names g2->LeastOut (fun m=>¬ EndK b1 m) g1 n->HDue b1 g1 b2 g2 (.endl n)
 | e2 {n:Str}:Gr.Named b1.names g1->Gr.Named b2.names g2->(∀ x ∈ g1.within,EndK b1 x.1.1)->LeastOut (fun m=>¬ EndK b2 m) g2 n->HDue b1 g1 b2 g2 (.endl n)
 | fine:Gr.Named b1.names g1->Gr.Named b2.names g2->(∀ x ∈ g1.within,EndK b1 x.1.1)->(∀ x ∈ g2.within,EndK b2 x.1.1)->HDue b1 g1 b2 g2 .fine
theorem LeastOut.uh {g:Gr} {n:Str} (h:LeastOut (fun m=>¬ EndK b m) g n) (hn:∀ x ∈ g.within,EndK b x.1.1):False:=by
 obtain ⟨x,hx,e⟩:=Qx h.mem;exact h.out (e ▸ hn x hx)
theorem HDue.uniq {b1 b2:Bk} {g1 g2:Gr} {o o':Ho} (h:HDue b1 g1 b2 g2 o) (h':HDue b1 g1 b2 g2 o'):o=o':=by
 cases h with
 | k1 l=>cases h' with
  | k1 l'=>rw [l.one l']
  | k2 a _=>exact (l.not a).elim
  | e1 a _ _=>exact (l.not a).elim
  | e2 a _ _ _=>exact (l.not a).elim
  | fine a _ _ _=>exact (l.not a).elim
 | k2 a l=>cases h' with
  | k1 l'=>exact (l'.not a).elim
  | k2 _ l'=>rw [l.one l']
  | e1 _ c _=>exact (l.not c).elim
  | e2 _ c _ _=>exact (l.not c).elim
  | fine _ c _ _=>exact (l.not c).elim
 | e1 a c l=>cases h' with
  | k1 l'=>exact (l'.not a).elim
  | k2 _ l'=>exact (l'.not c).elim
  | e1 _ _ l'=>rw [l.one l']
  | e2 _ _ d _=>exact (l.uh d).elim
  | fine _ _ d _=>exact (l.uh d).elim
 | e2 a c d l=>cases h' with
  | k1 l'=>exact (l'.not a).elim
  | k2 _ l'=>exact (l'.not c).elim
  | e1 _ _ l'=>exact (l'.uh d).elim
  | e2 _ _ _ l'=>rw [l.one l']
  | fine _ _ _ f=>exact (l.uh f).elim
 | fine a c d f=>cases h' with
  | k1 l'=>exact (l'.not a).elim
  | k2 _ l'=>exact (l'.not c).elim
  | e1 _ _ l'=>exact (l'.uh d).elim
  | e2 _ _ _ l'=>exact (l'.uh f).elim
  | fine _ _ _ _=>rfl
structure Hnd (K:Qn) (C:Addr) (H:Hp) (v w:V) (b:Bk) (g:Gr) (ns:List Str):Prop where
 bk:fJ K C H v b
 ok:b.Ok
 ga:GA K H w g
 deep:g.deep<=68
 parts:g.parts<=3000
 nm:Gr.Named ns g
 nl:ns.length<=60
theorem Hnd.dI {K:Qn} {C:Addr} {H H':Hp} {v w:V} {b:Bk} {g:Gr} {ns:List Str} (h:Hnd K C H v w b g ns) (s:SB [] H H'):Hnd K C H' v w b g ns:=⟨h.bk.dI s,h.ok,h.ga.sb s,h.deep,h.parts,h.nm,h.nl⟩
structure RkIn (b:Bk) (ρ:Str->Lad) (g:Gr):Prop where
 ow:OwnR b ρ
 deep:g.deep < 20
 parts:g.parts<=900
 fit:∀ ns,(∀ n ∈ b.names,EndK b n->n ∈ ns)->Gr.d5 b ρ ns g
 rd:(Gr.rk b ρ g).deep<=45
def HoX (NK EE:Addr) (H:Hp) (E:XK) (P:Prop):Ho->Prop
 | .kind n=>∀ (d:Addr) (H':Hp),SB [] H H'->H d=none->H' d=some (.xd [("kind",.str n)])->E (.ref NK) (some d) H'
 | .endl n=>∀ (d:Addr) (H':Hp),SB [] H H'->H d=none->H' d=some (.xd [("kind",.str n)])->E (.ref EE) (some d) H'
 | .fine=>P
def Pp (K:Qn) (C NK EE:Addr):Sp:=fun vs H Q E=>∃ (v1 w1 v2 w2:V) (b1 b2:Bk) (g1 g2:Gr) (AI AH:List Str) (o:Ho),vs=[v1,w1,v2,w2]/\Hnd K C H v1 w1 b1 g1 AI/\Hnd K C H v2 w2 b2 g2 AH/\HDue b1 g1 b2 g2 o/\HoX NK EE H E (∀ H',SB [] H H'->Q .non H') o
def EN (K:Qn) (H:Hp) (bad:List Addr) (v:V) (k:Kd):Prop:=∃ (t l:Addr) (zs:List V),v=.ref t/\SqT K H t [.bl k.w,.ref l]/\H l=some (.lst zs)/\Bears K H Ru.enc zs k.rs/\l ∉ bad
section
variable {K:Qn} {H H' H0:Hp} {bad ps:List Addr} {v:V} {k:Kd} {A d:Addr} {b:Bk}
theorem EN.sb (h:EN K H bad v k) (e:SB ps H H') (hn:dc H bad ps):EN K H' bad v k:=by
 obtain ⟨t,l,zs,e1,e2,e3,e4,e5⟩:=h;exact ⟨t,l,zs,e1,e.aP e2,e.keep _ _ e3 (fun z=>(hn l z).elim e5 fun q=>q zs e3),e4.sb e Ru.ag,e5⟩
theorem EN.more (h:EN K H bad v k) (hA:H A=none):EN K H (A::bad) v k:=by
 obtain ⟨t,l,zs,e1,e2,e3,e4,e5⟩:=h;exact ⟨t,l,zs,e1,e2,e3,e4,fun z=>(Qv z).elim (fun z=>by rw [z,hA] at e3; cases e3) e5⟩
def xQ (K:Qn) (H:Hp) (bad:List Addr) (d:Addr) (b:Bk):Prop:=∃ us:List V,H d=some (.dK (gj b.names us))/\z0i (EN K H bad) us b
theorem xQ.sb (h:xQ K H bad d b) (e:SB ps H H') (hd:d ∉ ps) (hn:dc H bad ps):xQ K H' bad d b:=by
 obtain ⟨us,h1,h2⟩:=h;exact ⟨us,e.keep _ _ h1 hd,h2.mono fun _ _ q=>q.sb e hn⟩
theorem xQ.more (h:xQ K H bad d b) (hA:H A=none):xQ K H (A::bad) d b:=by
 obtain ⟨us,h1,h2⟩:=h;exact ⟨us,h1,h2.mono fun _ _ q=>q.more hA⟩
end
theorem VM {α:Type} {C:Int} (hC:0<=C):∀ {bs:List (α × Int)},(∀ p ∈ bs,p.2<=C)->cP bs<=bs.length*C
 | [],_=>by simp [cP]
 | p::r,h=>by
  have h1:=h p (bF ..);have h2:=VM hC (bs:=r) fun q hq=>h q (bX _ hq);rw [cP,Yk,Int.natCast_add,Int.add_mul];omega
theorem OW {σ:L2.St} {H:Hp} {Q:L2.St->Hp->Prop} (h:Q (σ.set i (some v)) H):gName i v σ H Q:=h
namespace Lad
def fin (n:Int):Lad:=if 0 < n then .cons .nil n .nil else .nil
theorem iF {n:Int} (h:n < B):(fin n).Ok B:=by
 unfold fin
 split
 ·exact ⟨trivial,by omega,h,trivial,by simp [ps]⟩
 ·trivial
theorem sD (n:Int):R (fin n):=by
 by_cases h:0 < n
 ·exact ⟨n+1,by omega,iF (by omega)⟩
 ·exact ⟨1,by decide,iF (by omega)⟩
theorem iJ {n:Int} (h:0<=n) (x:Lad):S (fin n) x=if x=.nil then n else 0:=by
 unfold fin
 split
 ·show aB [(.nil,n)] x=_;unfold aB;by_cases e:x=.nil
  ·simp [e]
  ·have:¬ (Lad.nil=x):=fun z=>e z.symm;simp [e,this]
 ·show aB [] x=_;have:n=0:=by omega
  simp [aB,this]
theorem qv {n:Int} (h:0<=n) (g:0<=m):(fin n).lt (fin m)=decide (n < m):=by
 rw [Bool.eq_iff_iff,decide_eq_true_eq,lt_iff (iF (B:=n+1) (by omega)) (iF (B:=m+1) (by omega))];constructor
 ·rintro ⟨x,h1,_⟩
  rw [iJ h,iJ g] at h1
  split at h1 <;> omega
 ·intro e;refine ⟨.nil,?_,fun y hy=>?_⟩
  ·rw [iJ h,iJ g,if_pos rfl,if_pos rfl]; exact e
  ·have:y ≠ .nil:=fun z=>by rw [z,lt_irrefl] at hy; cases hy
   rw [iJ h,iJ g,if_neg this,if_neg this]
theorem vU {n:Int} (h:0<=n) (g:0<=m):(fin n).bS (fin m)=fin (n+m):=by
 obtain ⟨B,hB,ho⟩:=(sD n).bS (sD m);refine ext ho (iF (B:=n+m+1) (by omega)) fun x=>?_;rw [cZ,iJ h,iJ g,iJ (by omega)]
 split <;> omega
theorem Bt {n:Int} (h:0<=n) (g:0<=m):bH (fin n) m=fin (n*m):=by
 obtain ⟨B,hB,ho⟩:=(sD n).bH g;have hn:0<=n*m:=Int.mul_nonneg h g;refine ext ho (iF (B:=n*m+1) (by omega)) fun x=>?_;rw [hE,iJ h,iJ hn]
 split
 ·rfl
 ·exact Int.zero_mul m
theorem Ao:cV=fin 1:=rfl
theorem Bu {n:Int} (h:0<=n):(fin n).oU .nil=fin (n+1):=by
 show (fin n).bS cV=_;rw [Ao,vU h (by decide)]
end Lad
namespace Gr
def Flat (g:Gr):Prop:=∀ p ∈ g.ps,p.1.2=.nil
def bN (τ:Str->Int) (g:Gr):Int:=(g.ps.map fun p=>τ p.1.1*p.2).sum
variable {b:Bk} {ρ:Str->Lad} {τ:Str->Int}
theorem pZ:∀ {g:Gr},Flat g->(∀ p ∈ g.ps,b.wide p.1.1=false/\ρ p.1.1=Lad.fin (τ p.1.1)/\0<=τ p.1.1/\0<=p.2)->rk b ρ g=Lad.fin (bN τ g)/\(∀ l ∈ rkT b ρ g,Lad.R l)/\0<=bN τ g
 | .nil,_,_=>⟨fR,(fun _ h=>nomatch h),Kw _⟩
 | .cons k i m r,hf,h=>by
  obtain ⟨e1,e2,e3⟩:=pZ (g:=r) (fun p hp=>hf p (bX _ hp)) (fun p hp=>h p (bX _ hp));obtain ⟨h1,h2,h3,h4⟩:=h ((k,i),m) (bF ..);have hi:i=.nil:=hf ((k,i),m) (bF ..);subst hi;have ek:Lad.bH (di (b.wide k) (ρ k) (Lad.aT (rkT b ρ .nil))) m=Lad.fin (τ k*m):=by
   rw [show b.wide k=false from h1,show ρ k=Lad.fin (τ k) from h2];show Lad.bH (Lad.cL (Lad.fin (τ k)) (rk b ρ .nil)) m=_;rw [fR,Lad.dj,Lad.Bt h3 h4]
  have el:bN τ (.cons k .nil m r)=τ k*m+bN τ r:=by simp [bN,ps]
  have hm:0<=τ k*m:=Int.mul_nonneg h3 h4;refine ⟨?_,fun l hl=>?_,by omega⟩
  ·show Lad.aT (Lad.bH (di (b.wide k) (ρ k) (Lad.aT (rkT b ρ .nil))) m::rkT b ρ r)=_;rw [ek,Lad.oM (Lad.sD _) e2,show Lad.aT (rkT b ρ r)=Lad.fin (bN τ r) from e1,Lad.vU hm e3,el]
  ·rcases Qv (show l ∈ Lad.bH (di (b.wide k) (ρ k) (Lad.aT (rkT b ρ .nil))) m::rkT b ρ r from hl) with z | z
   ·rw [z,ek]; exact Lad.sD _
   ·exact e2 l z
end Gr
structure z6z (b:Bk):Prop where
 IC:∀ k ∈ b,k.w=false
 each:∀ k ∈ b,∀ r ∈ k.rs,r.2=.nil
 low:∀ k ∈ b,∀ r ∈ k.rs,r.1.deep<=1
 flat:∀ k ∈ b,∀ r ∈ k.rs,r.1.Flat
 num:∀ k ∈ b,∀ r ∈ k.rs,r.1.Ok 10
def uU (τ:Str->Int) (k:Kd) (v:Int):Prop:=∃ m,v=1+m/\m ∈ 0::k.rs.map (fun r=>Gr.bN τ r.1)/\∀ y ∈ 0::k.rs.map (fun r=>Gr.bN τ r.1),y<=m
def Nl (b:Bk) (τ:Str->Int):Prop:=∀ k ∈ b,uU τ k (τ k.n)
theorem uU.pos {τ:Str->Int} {k:Kd} {v:Int} (h:uU τ k v):1<=v:=by
 obtain ⟨m,e,_,h2⟩:=h;have:=h2 0 (bF ..);omega
theorem Gr.wQ {τ σ:Str->Int} {g:Gr} (h:∀ p ∈ g.ps,τ p.1.1=σ p.1.1):Gr.bN τ g=Gr.bN σ g:=by
 unfold Gr.bN;rw [List.map_congr_left fun p hp=>by rw [h p hp]]
theorem V5 {c:Bk} (ok:c.Ok) {k:Kd} (hk:k ∈ c):c.wide k.n=k.w:=Bk.lL (Bk.fD ok.nd hk)
theorem zfe {l:List Int} (h:m ∈ 0::l) (g:∀ y ∈ 0::l,y<=m) (p:∀ y ∈ l,0<=y):Lad.jm Lad.cV (l.map fun y=>Lad.fin (y+1))=Lad.fin (1+m):=by
 have pos:∀ y ∈ 0::l,0<=y:=fun y hy=>by
  rcases Qv hy with z | z
  ·omega
  ·exact p y z
 have e:Lad.cV::(l.map fun y=>Lad.fin (y+1))=(0::l).map fun y=>Lad.fin (y+1):=rfl;have h1:=Lad.gy (l.map fun y=>Lad.fin (y+1)) Lad.cV;have h2:=Lad.iR (l.map fun y=>Lad.fin (y+1)) Lad.cV;rw [e] at h1 h2;obtain ⟨y,hy,ey⟩:=Qx h1;have h3:=h2 _ (Ku ⟨m,h,rfl⟩);rw [<- ey,Lad.qv (by have:=pos y hy; omega) (by have:=pos m h; omega),decide_eq_false_iff_not] at h3;have:=g y hy;rw [<- ey,show y+1=1+m by omega]
section
variable {b c:Bk} {τ:Str->Int} {m:Nat}
theorem Po (D:Drawn b m) (hm:m<=5) (P:z6z b) (W:Nl b τ) (hc:c=b\/c=b.reverse):∀ n ∈ c.names,bT c n=Lad.fin (τ n)/\1<=τ n/\c.wide n=false:=by
 obtain ⟨same,zZ,lv,M⟩:=D.made hm hc;have mem:∀ k,k ∈ b->k ∈ c:=fun k hk=>by
  rcases hc with e | e
  ·rw [e]; exact hk
  ·rw [e]; exact List.mem_reverse.mpr hk
 have main:∀ (i:Nat) (k:Kd),b[i]?=some k->bT c k.n=Lad.fin (τ k.n):=by
  intro i
  induction i using Nat.strongRecOn with
  | ind i ih =>
  intro k ek;have km:=Qu ek;have kc:=mem k km;have knc:k.n ∈ c.names:=Ku ⟨k,kc,rfl⟩;obtain ⟨mx,e1,h1,h2⟩:=W k km;have rule:∀ r ∈ k.rs,gW c (bT c) r=Lad.fin (Gr.bN τ r.1+1)/\0<=Gr.bN τ r.1:=fun r hr=>by
   have hp:∀ p ∈ r.1.ps,c.wide p.1.1=false/\bT c p.1.1=Lad.fin (τ p.1.1)/\0<=τ p.1.1/\0<=p.2:=fun p hp=>by
    have hw:p ∈ Ru.within r:=i8 _ (Gr.mj hp);have hn:=D.ahead i k ek r hr p hw;obtain ⟨k2,vM,e2⟩:=Qx hn;obtain ⟨j,hj,ej⟩:=List.mem_iff_getElem.mp vM;rw [Kx] at hj;have Zq:b[j]?=some k2:=by
     rw [List.getElem_take] at ej;rw [Kp (by omega),ej]
    have Rp:=Qu Zq;have:=(W k2 Rp).pos;rw [<- e2];exact ⟨(V5 M.ok (mem k2 Rp)).trans (P.IC k2 Rp),ih j (by omega) k2 Zq,by omega,by have:=(Gr.bE (P.num k km r hr) hp).2.2.1; omega⟩
   obtain ⟨q1,_,q3⟩:=Gr.pZ (b:=c) (ρ:=bT c) (P.flat k km r hr) hp;refine ⟨?_,q3⟩;show Lad.oU (Gr.rk c (bT c) r.1) (Gr.rk c (bT c) r.2)=_;rw [q1,P.each k km r hr,Gr.fR,Lad.Bu q3]
  rw [M.own.own k kc (M.ends _ knc),e1];have e3:k.rs.map (gW c (bT c))=(k.rs.map fun r=>Gr.bN τ r.1).map fun y=>Lad.fin (y+1):=by
   rw [List.map_map];exact List.map_congr_left fun r hr=>(rule r hr).1
  rw [e3];exact zfe h1 h2 fun y hy=>by
   obtain ⟨r,hr,rfl⟩:=Qx hy;exact (rule r hr).2
 intro n hn;obtain ⟨k,hk,rfl⟩:=Qx ((zZ n).mp hn);obtain ⟨i,hi,ei⟩:=List.mem_iff_getElem.mp hk;exact ⟨main i k (by rw [Kp hi,ei]),(W k hk).pos,(V5 M.ok (mem k hk)).trans (P.IC k hk)⟩
theorem zhn (D:Drawn b m) (hm:m<=5) (P:z6z b) (W:Nl b τ) (hc:c=b\/c=b.reverse) {g:Gr} {C:Int} (hf:g.Flat) (ho:g.Ok C) (hn:Gr.Named c.names g):Gr.rk c (bT c) g=Lad.fin (Gr.bN τ g)/\0<=Gr.bN τ g:=by
 have h:=Po D hm P W hc;obtain ⟨q1,_,q3⟩:=Gr.pZ (b:=c) (ρ:=bT c) (τ:=τ) hf fun p hp=>by
  obtain ⟨h1,h2,h3⟩:=h _ ((Gr.aE.mp hn p hp).1);exact ⟨h3,h1,by omega,by have:=(Gr.bE ho hp).2.2.1; omega⟩
 exact ⟨q1,q3⟩
end
namespace Gr
theorem iS:∀ {g:Gr},g.deep<=1->Flat g
 | .nil,_,_,hp=>nomatch hp
 | .cons k i m r,h,p,hp=>by
  have h:max (1+i.deep) r.deep<=1:=h;rcases Qv hp with e | e
  ·rw [e];cases i with
   | nil=>rfl
   | cons k2 i2 m2 r2=>have:(Gr.cons k2 i2 m2 r2).deep=max (1+i2.deep) r2.deep:=rfl; omega
  ·exact iS (by omega) p e
theorem mM:∀ {g:Gr},Flat g->g.parts=g.ps.length
 | .nil,_=>rfl
 | .cons k i m r,h=>by
  have e:=mM (g:=r) fun p hp=>h p (bX _ hp);have hi:i=.nil:=h ((k,i),m) (bF ..);subst hi;show (Gr.cons k .nil m r).parts=r.ps.length+1;simp only [Gr.parts];omega
theorem jk:∀ {l:List Int} {x:Int},(∀ y ∈ l,0<=y)->x ∈ l->x<=l.sum
 | a::r,x,h,hx=>by
  have h1:=h a (bF ..);have h2:∀ y ∈ r,0<=y:=fun y hy=>h y (bX _ hy);have h3:0<=r.sum:=by
   clear hx
   induction r with
   | nil=>exact Kw _
   | cons b s ih =>
    have:=h2 b (bF ..);have:=ih (fun y hy=>h y (by rcases Qv hy with e | e; exact e ▸ bF ..; exact bX _ (bX _ e))) (fun y hy=>h2 y (bX _ hy));rw [List.sum_cons]; omega
  rw [List.sum_cons];rcases Qv hx with e | e
  ·omega
  ·have:=jk h2 e; omega
end Gr
structure Fg (c:Bk) (g:Gr):Prop where
 deep:g.deep<=1
 ok:∃ C,g.Ok C
 nm:Gr.Named c.names g
section
variable {c:Bk} {g:Gr} {τ:Str->Int}
theorem Fg.parts (h:Fg c g) {n:Nat} (hc:c.names.length<=n):g.parts<=n:=by
 obtain ⟨C,ho⟩:=h.ok;have hf:=Gr.iS h.deep;rw [Gr.mM hf];have h2:(g.ps.map fun p=>p.1.1).Nodup:=by
  refine List.pairwise_map.mpr ((Gr.aS.mp ho).2.imp_of_mem fun {p q} hp hq h z=>?_);have e:p.1=q.1:=Prod.ext z ((hf p hp).trans (hf q hq).symm);rw [e] at h;rw [BQ] at h;cases h
 have h3:(g.ps.map fun p=>p.1.1).length<=c.names.length:=h2.length_le_of_subset fun x hx=>by
  obtain ⟨p,hp,rfl⟩:=Qx hx;exact (Gr.aE.mp h.nm p hp).1
 rw [Ye] at h3;omega
theorem Fg.num (h:Fg c g) (ht:∀ n ∈ c.names,1<=τ n) {B:Int} (hl:Gr.bN τ g<=B) (hB:1<=B):g.Ok (B+1):=by
 obtain ⟨C,ho⟩:=h.ok;obtain ⟨h1,h2⟩:=Gr.aS.mp ho;refine Gr.aS.mpr ⟨fun p hp=>?_,h2⟩;obtain ⟨q1,q2,q3,q4⟩:=h1 p hp;have hf:=Gr.iS h.deep p hp;refine ⟨q1,by rw [hf]; trivial,q3,?_⟩;have hk:=ht _ ((Gr.aE.mp h.nm p hp).1);have:τ p.1.1*p.2<=Gr.bN τ g:=Gr.jk (fun y hy=>by
  obtain ⟨r,hr,rfl⟩:=Qx hy;exact Int.mul_nonneg (by have:=ht _ ((Gr.aE.mp h.nm r hr).1); omega) (by have:=(h1 r hr).2.2.1; omega)) (Ku ⟨p,hp,rfl⟩)
 have h5:=Int.mul_le_mul_of_nonneg_right hk (show 0<=p.2 by omega);rw [Int.one_mul] at h5;omega
theorem Fg.fl {f:Fa} {k:Str} {kd:Kd} {r:Ru} (ok:c.Ok) (h:Fg c g) (F:FlAt c g f k kd r) (h1:r.1.deep<=1) (h2:r.2=.nil):Fg c (fl c g f).1:=by
 rw [F.eq];obtain ⟨C,ho⟩:=h.ok;obtain ⟨rJ,rnm,_⟩:=F.facts ok;have n0:=F.n0;have bl:=Gr.gG F.bare;have gd:(Gr.hO r f.2.2).deep<=1:=Gr.jF h1 (Yb (Gr.gq r.2 f.2.2) (by rw [h2]; decide));have sd:=Gr.jH (b:=c) (n:=f.2.2) (fr:=Gr.hO r f.2.2) F.bare;have hd:=h.deep;exact ⟨by omega,⟨_,Gr.ku n0 (by omega) (Gr.qu rJ n0) ho F.bare⟩,Gr.iN (Gr.xk rnm _) F.bare h.nm⟩
end
structure Pb (b c:Bk) (τ:Str->Int):Prop where
 dr:Drawn b 5
 pl:z6z b
 wt:Nl b τ
 tr:c=b\/c=b.reverse
section
variable {b c:Bk} {g h:Gr} {τ:Str->Int}
theorem Pb.mem (B:Pb b c τ) {k:Kd} (hk:k ∈ c):k ∈ b:=by
 rcases B.tr with e | e
 ·rw [e] at hk; exact hk
 ·rw [e] at hk; exact List.mem_reverse.mp hk
theorem Pb.made (B:Pb b c τ):∃ lv,Made c lv:=(B.dr.made (by decide) B.tr).2.2
theorem Pb.ok (B:Pb b c τ):c.Ok:=by obtain ⟨lv,M⟩:=B.made; exact M.ok
theorem Pb.len (B:Pb b c τ):c.names.length<=5:=by
 have:=B.dr.len;rcases B.tr with e | e <;> rw [e] <;> simp [Bk.names] <;> exact this
theorem Pb.pos (B:Pb b c τ):∀ n ∈ c.names,1<=τ n:=fun n hn=>(Po B.dr (by decide) B.pl B.wt B.tr n hn).2.1
theorem Pb.rk (B:Pb b c τ) (hg:Fg c g):Gr.rk c (bT c) g=Lad.fin (Gr.bN τ g)/\0<=Gr.bN τ g:=by
 obtain ⟨C,ho⟩:=hg.ok;exact zhn B.dr (by decide) B.pl B.wt B.tr (Gr.iS hg.deep) ho hg.nm
theorem Pb.less {f:Fa} {k:Str} {kd:Kd} (B:Pb b c τ) (hg:Fg c g) (F:FlAt c g f k kd r):Fg c (fl c g f).1/\Gr.bN τ (fl c g f).1 < Gr.bN τ g:=by
 obtain ⟨km,_⟩:=Bk.get_some F.get;have rs:r.1.deep<=1/\r.2=.nil:=by
  rcases Qv (Qu F.rule) with z | z
  ·rw [z]; exact ⟨by decide,Ja⟩
  ·exact ⟨B.pl.low kd (B.mem km) r z,B.pl.each kd (B.mem km) r z⟩
 have YO:=hg.fl B.ok F rs.1 rs.2;refine ⟨YO,?_⟩;obtain ⟨C,ho⟩:=hg.ok;obtain ⟨lv,M⟩:=B.made;have G:Gr.Goods0 c (bT c) c.names:=Gr.Goods0.of M.ok (fun n hn=>M.R n hn (M.ends n hn)) (OT.own M.ok fun n hn=>⟨M.ends n hn,rfl⟩);have l0:=Gr.oh G F.get (Qu F.rule) F.n0 ho hg.nm F.bare;rw [<- F.eq] at l0;obtain ⟨e1,p1⟩:=B.rk hg;obtain ⟨e2,p2⟩:=B.rk YO;rw [e1,e2,Lad.qv p2 p1,decide_eq_true_eq] at l0;exact l0
end
def v9 (K:Qn) (C:Addr) (H:Hp) (a:Addr) (vs ws:List V) (h:Nat):Prop:=∃ dx T U:Addr,H a=some (.ins C dx [("books",.ref T),("standing",.ref U),("hand",.int (h:Nat))])/\SqT K H T vs/\SqT K H U ws
def Sel (h:Nat) (w0 w1 v u:V):Prop:=(h=0/\v=w0/\u=w1)\/(h=1/\v=w1/\u=w0)
section
variable {K:Qn} {C:Addr} {H H':Hp} {a:Addr} {vs ws:List V} {h:Nat} {w0 w1 v u:V} {ps:List Addr}
theorem v9.sb (d:v9 K C H a vs ws h) (e:SB ps H H') (ha:a ∉ ps):v9 K C H' a vs ws h:=by
 obtain ⟨dx,T,U,h1,h2,h3⟩:=d;exact ⟨dx,T,U,e.keep _ _ h1 ha,e.aP h2,e.aP h3⟩
theorem Sel.own (s:Sel h w0 w1 v u):atI [w0,w1] ((h:Nat):Int)=some v:=by
 rcases s with ⟨rfl,rfl,rfl⟩ | ⟨rfl,rfl,rfl⟩
 ·exact atI_nat (j:=0) rfl
 ·exact atI_nat (j:=1) rfl
theorem Sel.vw (s:Sel h w0 w1 v u):atI [w0,w1] (1-((h:Nat):Int))=some u:=by
 rcases s with ⟨rfl,rfl,rfl⟩ | ⟨rfl,rfl,rfl⟩
 ·exact atI_nat (j:=1) rfl
 ·exact atI_nat (j:=0) rfl
end
def PM (K:Qn) (CD C:Addr):Sp:=fun vs H Q _=>∃ (x dx:Addr) (v1 w1 v2 w2:V) (b1 b2:Bk) (g1 g2:Gr) (AI AH:List Str),vs=[.ref x,v1,w1,v2,w2]/\H x=some (.ins CD dx [])/\Hnd K C H v1 w1 b1 g1 AI/\Hnd K C H v2 w2 b2 g2 AH/\HDue b1 g1 b2 g2 .fine/\∀ H',SB [x] H H'->v9 K CD H' x [v1,v2] [w1,w2] 0->Q .non H'
def PU (K:Qn) (CD:Addr):Sp:=fun vs H Q _=>∃ (a:Addr) (bs ws:List V) (h:Nat),vs=[.ref a]/\v9 K CD H a bs ws h/\Q (.int (h:Nat)) H
def QA (K:Qn) (CD:Addr):Sp:=fun vs H Q _=>∃ (a:Addr) (bs ws:List V) (h:Nat),vs=[.ref a]/\v9 K CD H a bs ws h/\∀ U:Addr,SqT K H U ws->Q (.ref U) H
def Px (K:Qn) (CD:Addr):Sp:=fun vs H Q _=>∃ (a:Addr) (bs:List V) (w0 w1 v u:V) (h:Nat) (g:Gr),vs=[.ref a]/\v9 K CD H a bs [w0,w1] h/\Sel h w0 w1 v u/\GA K H v g/\(g=.nil->Q (.int (h:Nat)) H)/\(g ≠ .nil->Q .non H)
def PY (K:Qn) (CD CB:Addr):Sp:=fun vs H Q _=>∃ (a pa:Addr) (bv cv w0 w1 v u:V) (h:Nat) (b:Bk) (g:Gr) (m:Nat) (f:Fa) (k:Str) (kd:Kd) (r:Ru),vs=[.ref a,.ref pa,.int (f.2.1:Nat),.int f.2.2]/\v9 K CD H a [bv,cv] [w0,w1] h/\Sel h w0 w1 v u/\(fJ K CB H (if h=0 then bv else cv) b/\b.Ok)/\(GA K H v g/\Std b m g)/\SqT K H pa (f.1.map fun n:Nat=>V.int (n:Int))/\FlAt b g f k kd r/\Dc (fl b g f).1/\∀ (x x0 x1:V) (H':Hp),SB [a] H H'->Sel h x0 x1 x u->GA K H' x (fl b g f).1->v9 K CD H' a [bv,cv] [x0,x1] (1-h)->Q .non H'
def Pr (K:Qn) (CD CB:Addr):Sp:=fun vs H Q _=>∃ (a:Addr) (bv w0 w1 v u:V) (h:Nat) (b c:Bk) (τ:Str->Int) (g o:Gr),vs=[.ref a]/\v9 K CD H a [bv,bv] [w0,w1] h/\Sel h w0 w1 v u/\(fJ K CB H bv c/\Pb b c τ)/\(GA K H v g/\Fg c g/\Gr.bN τ g<=100)/\(GA K H u o/\Fg c o/\Gr.bN τ o<=100) /\
 (Gr.bN τ o < Gr.bN τ g->∀ (p pa:Addr) (f:Fa) (k:Str) (kd:Kd) (r:Ru) (H':Hp),SB [] H H'->SqT K H' p [.ref pa,.int (f.2.1:Nat),.int f.2.2]->SqT K H' pa (f.1.map fun n:Nat=>V.int (n:Int))->FlAt c g f k kd r->Gr.bN τ o<=Gr.bN τ (fl c g f).1->Q (.ref p) H') /\
 (¬ Gr.bN τ o < Gr.bN τ g->∀ H',SB [] H H'->Q .non H')
def Wt (K:Qn):Sp:=fun vs H Q _=>∃ (p cl:Addr) (v:V) (g:Gr) (C:Int),vs=[.ref p,v]/\cm H p cl/\GA K H v g/\g.Ok C/\g.deep<=60/\g.parts<=1000/\g ≠ .nil/\∀ (pa:Addr) (pl:Pl) (k:Str) (H':Hp),SB [p] H H'->cm H' p cl->SqT K H' pa (pl.map fun n:Nat=>V.int (n:Int))->Gr.bareAt g pl=some k->Q (.ref pa) H'
def VN:Sp:=fun vs H Q _=>∃ p cl:Addr,vs=[.ref p]/\cm H p cl/\∀ (n:Int) (H':Hp),0<=n->n < 10 ^ 9->SB [p] H H'->cm H' p cl->Q (.int n) H'
def Nu (K:Qn):Sp:=fun vs H Q _=>∃ (p nl cl:Addr) (ks:List Str) (m:Nat) (c:Int),vs=[.ref p,.ref nl,.int (m:Nat),.int c]/\cm H p cl/\(H nl=some (.lst (ks.map V.str))/\nl ≠ p/\ks.length<=8/\∀ k ∈ ks,fm k)/\m<=4/\1<=c/\c<=3/\∀ (v:V) (g:Gr) (H':Hp),SB [p] H H'->cm H' p cl->GA K H' v g->g.Ok (m*c+1)->g.parts<=m->g.deep<=1->Gr.Named ks g->Q v H'
def Wo (K:Qn):Sp:=fun vs H Q _=>∃ p cl:Addr,vs=[.ref p]/\cm H p cl/\∀ (d:Addr) (b:Bk) (H':Hp),SB [p] H H'->cm H' p cl->H d=none->d ≠ p->Gx K H' d b->Drawn b 5->z6z b->Q (.ref d) H'
def kP (H:Hp) (e:Addr) (ns:List Str) (τ:Str->Int):Prop:=H e=some (.dK (zk ns (ns.map fun n=>V.int (τ n))))
def Ig (K:Qn):Sp:=fun vs H Q _=>∃ (x v:V) (e:Addr) (ns:List Str) (τ:Str->Int) (g:Gr),vs=[x,.ref e,v]/\kP H e ns τ/\(∀ n ∈ ns,0<=τ n/\τ n<=10 ^ 8)/\ns.Nodup/\GA K H v g/\g.parts<=1000/\Gr.Named ns g/\∀ H',SB [] H H'->Q (.int (Gr.bN τ g)) H'
def WS (K:Qn):Sp:=fun vs H Q _=>∃ (d:Addr) (b:Bk),vs=[.ref d]/\Gx K H d b/\Drawn b 5/\z6z b/\∀ (e:Addr) (τ:Str->Int) (H':Hp),SB [] H H'->H e=none->kP H' e b.names τ->Nl b τ->(∀ n ∈ b.names,0<=τ n/\τ n<=10 ^ 8)->Q (.ref e) H'
theorem kP.val {H:Hp} {e:Addr} {τ:Str->Int} (h:kP H e ns τ) (nd:ns.Nodup) {n:Str} (hn:n ∈ ns):DGet H e (.str n) (some (.int (τ n))):=by
 have ul:(ns.map fun n=>V.int (τ n)).length=ns.length:=List.length_map ..;have kn:((zk ns (ns.map fun n=>V.int (τ n))).map (·.1)).Nodup:=by
  rw [HW ul];exact List.Pairwise.map _ (fun a b h z=>h (Sum.inr.inj z)) nd
 have hm:((Sum.inr n:Key),V.int (τ n)) ∈ zk ns (ns.map fun n=>V.int (τ n)):=by
  clear h kn ul nd
  induction ns with
  | nil=>cases hn
  | cons a r ih =>
   show _ ∈ ((Sum.inr a:Key),V.int (τ a))::zk r (r.map fun n=>V.int (τ n));rcases Qv hn with e | e
   ·rw [e]; exact bF ..
   ·exact bX _ (ih e)
 exact i5 h (W8 kn _ hm)
theorem kP.put {H:Hp} {e:Addr} {τ:Str->Int} {n:Str} {x:Int} (h:kP H e ns τ) (hn:n ∉ ns) (hl:ns.length<=1000):∃ H',DPut H e (.str n) (.int x) H'/\SB [e] H H'/\kP H' e (ns++[n]) (fun m=>if m=n then x else τ m):=by
 have iV:=sizeLine_eq;have ul:(ns.map fun n=>V.int (τ n)).length=ns.length:=List.length_map ..;have zl:=zir ul;have t:=SB.jI (ps:=[e]) h (by simp) (.dK (putK (zk ns (ns.map fun n=>V.int (τ n))) (Sum.inr n) (.int x)));refine ⟨_,DPut.k (k:=Sum.inr n) h (by rw [zl]; omega),t,?_⟩;show upd H e _ e=_;rw [Qt,zim ul hn];have e1:(ns++[n]).map (fun m=>V.int (if m=n then x else τ m))=ns.map (fun n=>V.int (τ n))++[V.int x]:=by
  rw [Yj,Ky,List.map_nil,if_pos rfl]
  congr 1
  exact List.map_congr_left fun m hm=>by
   have:¬ m=n:=fun z=>hn (by rw [<- z]; exact hm);rw [if_neg this]
 rw [e1]
theorem Lad.oJ (n:Int):(Lad.fin n).parts<=1:=by
 unfold Lad.fin
 split <;> simp [Lad.parts]
theorem Lad.yT (n:Int):(Lad.fin n).deep<=1:=by
 unfold Lad.fin
 split <;> simp [Lad.deep]
theorem Pb.Oa {c:Bk} {τ:Str->Int} {g:Gr} (B:Pb b c τ) (hg:Fg c g) (hl:Gr.bN τ g<=100):(∀ x ∈ g.within,EndK c x.1.1)/\RkIn c (bT c) g/\(g.Ok 101/\g.parts<=5/\LFitW (Gr.rk c (bT c) g)/\Gr.Bd c (bT c) 1 102 g)/\∀ n ∈ c.names,EndK c n->Lad.R (bT c n)/\bT c n ≠ .nil:=by
 obtain ⟨lv,M⟩:=B.made;have gp:=hg.parts B.len;have go:=hg.num B.pos hl (by decide);have gd:=hg.deep;have V:=M.grv (go.mono (by decide)) hg.nm (by omega) (by omega);refine ⟨fun x hx=>M.ends _ (hg.nm x hx),⟨M.own,by omega,by omega,V.Ts,by have:=V.deep; omega⟩,⟨go,gp,V.lfW,fun x hx=>?_⟩,M.R⟩;have hf:=Gr.iS gd;have oy:x ∈ g.ps:=by
  rw [Gr.eE] at hx;obtain ⟨p,hp,hx⟩:=List.mem_flatMap.mp hx;rw [hf p hp] at hx;rw [Qy hx];exact hp
 have hn:=hg.nm x hx;obtain ⟨e1,e2,e3⟩:=Po B.dr (by decide) B.pl B.wt B.tr _ hn;have er:Gr.eA c (bT c) x.1=Lad.fin (τ x.1.1):=by
  show di (c.wide x.1.1) (bT c x.1.1) (Gr.rk c (bT c) x.1.2)=_;rw [e3,e1,hf x oy,Gr.fR];exact Lad.dj _
 have hm:=(Gr.bE go oy).2.2.1;have h1:τ x.1.1*x.2<=Gr.bN τ g:=Gr.jk (fun y hy=>by
  obtain ⟨r,hr,rfl⟩:=Qx hy;exact Int.mul_nonneg (by have:=B.pos _ ((Gr.aE.mp hg.nm r hr).1); omega) (by have:=(Gr.bE go hr).2.2.1; omega)) (Ku ⟨x,oy,rfl⟩)
 have h2:=Int.mul_le_mul_of_nonneg_left hm (show 0<=τ x.1.1 by omega);rw [Int.mul_one] at h2;rw [er];exact ⟨Lad.oJ _,Lad.iF (by omega)⟩
theorem Gr.tH {bs:List (Tr × Int)} (h:∀ p ∈ bs,p.1.1 ∈ ns/\Gr.Named ns p.1.2):Gr.Named ns (Gr.tidy bs):=Gr.aE.mpr fun p hp=>by
 have hp:p ∈ xU Gr.aC bs:=by rw [<- Gr.a9 (xU Gr.aC bs)]; exact hp
 obtain ⟨q,hq,e⟩:=Iq (enc:=Gr.aC) _ p hp;rw [<- e];exact h q hq
theorem Gr.vD {C:Int}:∀ {l:List Int},(∀ x ∈ l,x<=C)->l.sum<=l.length*C
 | [],_=>by simp
 | a::r,h=>by
  have h1:=h a (bF ..);have h2:=Gr.vD (l:=r) fun x hx=>h x (bX _ hx);rw [List.sum_cons,Yk,Int.natCast_add,Int.add_mul];omega
theorem Gr.DL {τ:Str->Int} {g:Gr} {M:Int} {m:Nat} (ho:g.Ok 10) (hp:g.parts<=m) (hM:0<=M) (h:∀ p ∈ g.ps,0<=τ p.1.1/\τ p.1.1<=M):Gr.bN τ g<=m*(9*M):=by
 have h1:=Gr.vD (C:=9*M) (l:=g.ps.map fun p=>τ p.1.1*p.2) fun x hx=>by
  obtain ⟨p,hp,rfl⟩:=Qx hx;obtain ⟨a,b⟩:=h p hp;have c:=(Gr.bE ho hp).2.2;have d:=Int.mul_le_mul b (show p.2<=9 by omega) (by omega) hM;omega
 have h2:=g.aN;rw [Ye] at h1;have h3:((g.ps.length:Nat):Int)*(9*M)<=(m:Int)*(9*M):=Int.mul_le_mul_of_nonneg_right (by omega) (by omega);show (g.ps.map fun p=>τ p.1.1*p.2).sum<=_;omega
section
variable {h:Nat} {w0 w1 v u x:V}
theorem Sel.flip (s:Sel h w0 w1 v u):Sel (1-h) w0 w1 u v:=by
 rcases s with ⟨rfl,rfl,rfl⟩ | ⟨rfl,rfl,rfl⟩
 ·exact .inr ⟨rfl,Ja,Ja⟩
 ·exact .inl ⟨rfl,Ja,Ja⟩
theorem Sel.set (s:Sel h w0 w1 v u) (x:V):∃ x0 x1,[w0,w1].set h x=[x0,x1]/\Sel h x0 x1 x u:=by
 rcases s with ⟨rfl,rfl,rfl⟩ | ⟨rfl,rfl,rfl⟩
 ·exact ⟨_,_,Ja,.inl ⟨rfl,Ja,Ja⟩⟩
 ·exact ⟨_,_,Ja,.inr ⟨rfl,Ja,Ja⟩⟩
end
structure In60 (K:Qn) (CD CB:Addr) (H:Hp) (p cl d e y GL RL bk:Addr) (b c:Bk) (τ:Str->Int) (h:Nat) (g o:Gr):Prop where
 vv:cm H p cl
 dk:xQ K H [GL,RL] d b
 wr:kP H e b.names τ
 EF:fJ K CB H (.ref bk) c
 du:∃ w0 w1 v u,v9 K CD H y [.ref bk,.ref bk] [w0,w1] h/\Sel h w0 w1 v u/\GA K H v g/\GA K H u o
 gl:∃ w0 w1 v u,H GL=some (.lst [w0,w1])/\Sel h w0 w1 v u/\GA K H v g/\GA K H u o
 rl:∃ w0 w1,H RL=some (.lst [w0,w1])/\Sel h w0 w1 (.int (Gr.bN τ g)) (.int (Gr.bN τ o))
 fg:Fg c g
 fo:Fg c o
 lg:Gr.bN τ g<=100
 lo:Gr.bN τ o<=100
 dp:d ≠ p
 ep:e ≠ p
 gr:GL ≠ RL
 gc:GL ≠ cl
 rc:RL ≠ cl
section
variable {K:Qn} {CD CB:Addr} {H H':Hp} {p cl d e y GL RL bk:Addr} {b c:Bk} {τ:Str->Int} {h:Nat} {g o:Gr}
theorem v9.ins {a:Addr} {vs ws:List V} (q:v9 K CD H a vs ws h):∃ C dx fs,H a=some (.ins C dx fs)/\fs.length=3:=by
 obtain ⟨dx,T,U,h1,_⟩:=q;exact ⟨_,_,_,h1,Ja⟩
theorem In60.draw (I:In60 K CD CB H p cl d e y GL RL bk b c τ h g o) (s:SB [p] H H') (hp:cm H' p cl):In60 K CD CB H' p cl d e y GL RL bk b c τ h g o:=by
 obtain ⟨w0,w1,v,u,q1,q2,q3,q4⟩:=I.du;obtain ⟨x0,x1,x,z,r1,r2,r3,r4⟩:=I.gl;obtain ⟨y0,y1,t1,t2⟩:=I.rl;obtain ⟨aQ,eJ⟩:=I.vv.FZ;obtain ⟨C,dx,fs,hy,_⟩:=q1.ins;have n1:GL ∉ [p]:=fun z=>by rw [<- Qy z,r1] at eJ; cases eJ
 have n2:RL ∉ [p]:=fun z=>by rw [<- Qy z,t1] at eJ; cases eJ
 have n3:y ∉ [p]:=fun z=>by rw [<- Qy z,hy] at eJ; cases eJ
 exact { I with
  vv:=hp
  dk:=I.dk.sb s (by simpa using I.dp) (fun x hx=>.inr fun xs z=>by rw [Qy hx,eJ] at z; cases z)
  wr:=s.keep _ _ I.wr (by simpa using I.ep)
  EF:=I.EF.vv I.vv s
  du:=⟨w0,w1,v,u,q1.sb s n3,q2,q3.sb s,q4.sb s⟩
  gl:=⟨x0,x1,x,z,s.keep _ _ r1 n1,r2,r3.sb s,r4.sb s⟩
  rl:=⟨y0,y1,s.keep _ _ t1 n2,t2⟩ }
theorem In60.sb (I:In60 K CD CB H p cl d e y GL RL bk b c τ h g o) (s:SB [] H H'):In60 K CD CB H' p cl d e y GL RL bk b c τ h g o:=I.draw s.nil (I.vv.sb s)
theorem In60.turn {x0 x1 u' z au c0 CJ:V} {g':Gr} (I:In60 K CD CB H p cl d e y GL RL bk b c τ h g o) (s:SB [y,GL] H H') (hS:Sel h x0 x1 x u') (hx:GA K H' x g') (hu:GA K H' u' o) (hD:v9 K CD H' y [.ref bk,.ref bk] [x0,x1] (1-h)) (hG:H' GL=some (.lst [c0,CJ])) (sc:Sel h c0 CJ z au) (hz:GA K H' z g') (ha:GA K H' au o) (fg:Fg c g') (lt:Gr.bN τ g' < Gr.bN τ g) :
  kP H' e b.names τ/\∃ b0 b1 f0 Gi,H' RL=some (.lst [b0,b1])/\Sel h b0 b1 (.int (Gr.bN τ g)) (.int (Gr.bN τ o))/\[b0,b1].set h (.int (Gr.bN τ g'))=[f0,Gi]/\In60 K CD CB (upd H' RL (.lst [f0,Gi])) p cl d e y GL RL bk b c τ (1-h) o g':=by
 obtain ⟨w0,w1,v,u,q1,q2,q3,q4⟩:=I.du;obtain ⟨a0,a1,av,au',r1,r2,r3,r4⟩:=I.gl;obtain ⟨b0,b1,t1,t2⟩:=I.rl;obtain ⟨aQ,eJ⟩:=I.vv.FZ;obtain ⟨us,So,z7⟩:=I.dk;obtain ⟨C,dx,fs,hy,fl3⟩:=q1.ins;obtain ⟨f0,Gi,ef,sf⟩:=t2.set (.int (Gr.bN τ g'));have ne:∀ {q:Addr} {ob:HO},H q=some ob->(∀ C dx fs,ob ≠ .ins C dx fs)->q ≠ GL->q ∉ [y,GL]:=fun hq hn n z=>by
  simp only [List.mem_cons,aL,or_false] at z;rcases z with rfl | rfl
  ·rw [hy] at hq;exact hn _ _ _ (Yd hq).symm
  ·exact n rfl
 have nG:∀ {q:Addr} {ob:HO},H q=some ob->(∀ xs,ob ≠ .lst xs)->q ≠ GL:=fun hq hn z=>by
  rw [z,r1] at hq;exact hn _ (Yd hq).symm
 have R1:=s.keep _ _ t1 (ne t1 (fun _ _ _ z=>nomatch z) I.gr.symm);have W1:kP H' e b.names τ:=s.keep _ _ I.wr (ne I.wr (fun _ _ _ z=>nomatch z) (nG I.wr fun _ z=>nomatch z));have D1:xQ K H' [GL,RL] d b:=xQ.sb (bad:=[GL,RL]) ⟨us,So,z7⟩ s (ne So (fun _ _ _ z=>nomatch z) (nG So fun _ z=>nomatch z)) (fun x hx=>by
  simp only [List.mem_cons,aL,or_false] at hx;rcases hx with rfl | rfl
  ·exact .inr fun xs z=>by rw [hy] at z; cases z
  ·exact .inl (by simp))
 have P1:cm H' p cl:=by
  obtain ⟨ns,at_,l,sd,p1,p2,p3⟩:=I.vv;exact ⟨ns,at_,l,sd,s.keep _ _ p1 (ne p1 (fun _ _ _ z=>nomatch z) (nG p1 fun _ z=>nomatch z)),s.keep _ _ p2 (ne p2 (fun _ _ _ z=>nomatch z) I.gc.symm),p3⟩
 have B1:fJ K CB H' (.ref bk) c:=by
  obtain ⟨a,dx',d1,d2,us,e1,h1,h2,h3,h4⟩:=I.EF;refine ⟨a,dx',d1,d2,us,e1,s.keep _ _ h1 fun z=>?_,s.keep _ _ h2 (ne h2 (fun _ _ _ z=>nomatch z) (nG h2 fun _ z=>nomatch z)),s.keep _ _ h3 (ne h3 (fun _ _ _ z=>nomatch z) (nG h3 fun _ z=>nomatch z)),h4.sb s Kd.dJ⟩;simp only [List.mem_cons,aL,or_false] at z;rcases z with rfl | rfl
  ·rw [h1] at hy;cases hy;exact absurd (show 2=3 from fl3) (by decide)
  ·rw [h1] at r1; cases r1
 have k:=SB.set (ps:=[RL]) R1 (by simp) (.lst [f0,Gi]);have nl:∀ {q:Addr} {ob:HO},H' q=some ob->(∀ xs,ob ≠ .lst xs)->q ∉ [RL]:=fun hq hn z=>by
  rw [Qy z,R1] at hq; exact hn _ (Yd hq).symm
 obtain ⟨C2,dx2,fs2,Oj,_⟩:=hD.ins;obtain ⟨wq,JW,RP⟩:=D1;refine ⟨W1,b0,b1,f0,Gi,R1,t2,ef,?_⟩;exact { I with
  vv:=by
   obtain ⟨ns,at_,l,sd,p1,p2,p3⟩:=P1;exact ⟨ns,at_,l,sd,k.keep _ _ p1 (nl p1 fun _ z=>nomatch z),k.keep _ _ p2 (by simp [I.rc.symm]),p3⟩
  dk:=xQ.sb (bad:=[GL,RL]) ⟨wq,JW,RP⟩ k (nl JW fun _ z=>nomatch z) (fun x hx=>.inl (by simp [Qy hx]))
  wr:=k.keep _ _ W1 (nl W1 fun _ z=>nomatch z)
  EF:=B1.sb k (qI.one R1)
  du:=⟨x0,x1,u',x,hD.sb k (nl Oj fun _ z=>nomatch z),hS.flip,hu.sb k,hx.sb k⟩
  gl:=⟨c0,CJ,au,z,k.keep _ _ hG (by simpa using I.gr),sc.flip,ha.sb k,hz.sb k⟩
  rl:=⟨f0,Gi,Qt,sf.flip⟩
  fg:=I.fo
  fo:=fg
  lg:=I.lo
  lo:=by have:=I.lg; omega }
end
def top (i:Nat):Stmt:=PySem.Challenge.pw_felltimber_k60_whole_duel_to_the_end.main.body.getD i (.Pass ⟨0,0,0,0⟩)
abbrev GP:Stmt:=top 3
abbrev Hs:Stmt:=top 4
abbrev G6:Stmt:=top 5
abbrev C4:Stmt:=top 6
abbrev C6:Stmt:=top 7
abbrev Fu:Stmt:=top 8
abbrev Hy:Stmt:=top 9
abbrev HG:Stmt:=top 22
abbrev EX:Stmt:=top 23
abbrev E8:Stmt:=top 24
abbrev Hj:Stmt:=top 25
abbrev Hl:Stmt:=top 26
abbrev Fc:Stmt:=top 27
abbrev Hg:Stmt:=top 28
abbrev Ff:Stmt:=top 29
abbrev GF:Stmt:=top 30
abbrev Fm:Stmt:=top 31
abbrev HE:Stmt:=top 39
abbrev GD:Stmt:=top 40
abbrev Gz:Stmt:=top 41
abbrev C5:Stmt:=top 42
abbrev Fb:Stmt:=top 43
abbrev Fq:Stmt:=top 44
abbrev Fd:Stmt:=top 45
abbrev GI:Stmt:=top 47
abbrev E6:Stmt:=top 48
abbrev Fe:Stmt:=top 49
abbrev HI:Stmt:=top 53
abbrev GJ:Stmt:=top 54
abbrev Hn:Stmt:=top 55
abbrev GG:Stmt:=top 56
abbrev Hz:Stmt:=top 57
abbrev HD:Stmt:=top 58
abbrev HJ:Stmt:=top 59
abbrev GQ:Stmt:=top 61
abbrev Fv:Stmt:=top 62
abbrev E3:Stmt:=top 63
abbrev E7:Stmt:=top 64
abbrev Fp:Stmt:=top 65
abbrev Fo:Stmt:=top 66
abbrev Hu:Stmt:=top 67
abbrev Hw:Stmt:=top 69
abbrev E9:Stmt:=top 70
abbrev HF:Stmt:=top 71
abbrev EV:Stmt:=top 73
abbrev HC:Stmt:=top 74
abbrev EZ:Stmt:=top 75
abbrev Ft:Stmt:=top 76
abbrev HH:Stmt:=top 77
abbrev GX:Stmt:=top 79
abbrev EW:Stmt:=top 80
abbrev Hv:Stmt:=top 81
abbrev Ht:Stmt:=top 83
abbrev Fl:Stmt:=top 84
abbrev G0:Stmt:=top 85
abbrev Fi:Stmt:=top 86
abbrev HA:Stmt:=top 87
abbrev GZ:Stmt:=top 88
abbrev Hr:Stmt:=top 90
abbrev BJ:Stmt:=top 91
abbrev GV:Stmt:=top 92
abbrev GK:Stmt:=top 93
abbrev GU:Stmt:=top 94
abbrev HB:Stmt:=top 95
abbrev GC:Stmt:=top 96
abbrev Fj:Stmt:=top 97
abbrev HM:Stmt:=top 99
abbrev HK:Stmt:=top 102
abbrev GO:Stmt:=top 103
abbrev Hk:Stmt:=top 104
abbrev BH:Stmt:=top 105
abbrev E5:Stmt:=top 106
abbrev Hc:Stmt:=top 107
abbrev GS:Stmt:=top 108
abbrev GY:Stmt:=top 109
abbrev Gy:Stmt:=top 110
abbrev Fn:Stmt:=top 111
abbrev E4:Stmt:=top 112
abbrev EY:Stmt:=top 113
abbrev C3:Stmt:=top 114
abbrev Fs:Stmt:=inClass (top 15) 0
abbrev Fh:Stmt:=inClass (top 19) 0
abbrev rE:Stmt:=inClass (top 38) 0
abbrev wI:Stmt:=inClass (top 38) 1
abbrev wG:Stmt:=inClass (top 38) 2
abbrev wH:Stmt:=inClass (top 38) 3
abbrev wF:Stmt:=inClass (top 100) 0
abbrev wy:Stmt:=inClass (top 100) 1
abbrev wB:Stmt:=inClass (top 100) 2
abbrev wC:Stmt:=inClass (top 100) 3
abbrev wD:Stmt:=inClass (top 100) 4
abbrev wz:Stmt:=inClass (top 100) 5
abbrev eC:List Str:=["NoReach"]
abbrev eN:List Str:=["NoRest","NoPlace","NoBook","NoKind","NoRule","NoNumber","TooGreat","Endless","NoReach"]
abbrev eK:List Str:=["NoKind","Endless"]
def zl2:He.DefD:=⟨(dR,none),dR,dR,defArgs GP,defBody GP,defScope GP,[],[]⟩
def zj8:He.DefD:=⟨(fX,none),fX,fX,defArgs Hs,defBody Hs,defScope Hs,[],[]⟩
def ZJ:He.DefD:=⟨(iq,none),iq,iq,defArgs G6,defBody G6,defScope G6,[],[]⟩
def zky:He.DefD:=⟨(eZ,none),eZ,eZ,defArgs C4,defBody C4,defScope C4,[],[]⟩
def ZE:He.DefD:=⟨(gK,none),gK,gK,defArgs C6,defBody C6,defScope C6,[],[]⟩
def zjw:He.DefD:=⟨(ik,none),ik,ik,defArgs Fu,defBody Fu,defScope Fu,[],[]⟩
def Z8:He.DefD:=⟨(m6,none),m6,m6,defArgs Hy,defBody Hy,defScope Hy,[],[]⟩
def zlg:He.DefD:=⟨(fW,none),fW,fW,defArgs HG,defBody HG,defScope HG,[],[]⟩
def zlr:He.DefD:=⟨(dS,none),dS,dS,defArgs EX,defBody EX,defScope EX,[],[]⟩
def zkd:He.DefD:=⟨(a8,none),a8,a8,defArgs E8,defBody E8,defScope E8,[],[]⟩
def zkg:He.DefD:=⟨(fO,none),fO,fO,defArgs Hj,defBody Hj,defScope Hj,[],[]⟩
def zk0:He.DefD:=⟨(j5,none),j5,j5,defArgs Hl,defBody Hl,defScope Hl,[],[]⟩
def zl5:He.DefD:=⟨(uW,none),uW,uW,defArgs Fc,defBody Fc,defScope Fc,[],[]⟩
def ZN:He.DefD:=⟨(bf,none),bf,bf,defArgs Hg,defBody Hg,defScope Hg,[],[]⟩
def ZX:He.DefD:=⟨(cG,none),cG,cG,defArgs Ff,defBody Ff,defScope Ff,[],[]⟩
def zkf:He.DefD:=⟨(ig,none),ig,ig,defArgs GF,defBody GF,defScope GF,[],[]⟩
def zjo:He.DefD:=⟨(fY,none),fY,fY,defArgs Fm,defBody Fm,defScope Fm,[],[]⟩
def zk9:He.DefD:=⟨(a5,none),a5,a5,defArgs HE,defBody HE,defScope HE,[],[]⟩
def zks:He.DefD:=⟨(cW,none),cW,cW,defArgs GD,defBody GD,defScope GD,[],[]⟩
def zlb:He.DefD:=⟨(bQ,none),bQ,bQ,defArgs Gz,defBody Gz,defScope Gz,[],[]⟩
def zjb:He.DefD:=⟨(fZ,none),fZ,fZ,defArgs C5,defBody C5,defScope C5,[],[]⟩
def ZC:He.DefD:=⟨(j9,none),j9,j9,defArgs Fb,defBody Fb,defScope Fb,[],[]⟩
def ZO:He.DefD:=⟨(j8,none),j8,j8,defArgs Fq,defBody Fq,defScope Fq,[],[]⟩
def zl4:He.DefD:=⟨(ff,none),ff,ff,defArgs Fd,defBody Fd,defScope Fd,[],[]⟩
def zld:He.DefD:=⟨(hY,none),hY,hY,defArgs GI,defBody GI,defScope GI,[],[]⟩
def zj3:He.DefD:=⟨(fU,none),fU,fU,defArgs E6,defBody E6,defScope E6,[],[]⟩
def zlu:He.DefD:=⟨(cu,none),cu,cu,defArgs Fe,defBody Fe,defScope Fe,[],[]⟩
def zk1:He.DefD:=⟨(ng,none),ng,ng,defArgs HI,defBody HI,defScope HI,[],[]⟩
def zjz:He.DefD:=⟨(j6,none),j6,j6,defArgs GJ,defBody GJ,defScope GJ,[],[]⟩
def zl9:He.DefD:=⟨(dv,none),dv,dv,defArgs Hn,defBody Hn,defScope Hn,[],[]⟩
def zj2:He.DefD:=⟨(d8,none),d8,d8,defArgs GG,defBody GG,defScope GG,[],[]⟩
def zln:He.DefD:=⟨(uZ,none),uZ,uZ,defArgs Hz,defBody Hz,defScope Hz,[],[]⟩
def zjf:He.DefD:=⟨(dq,none),dq,dq,defArgs HD,defBody HD,defScope HD,[],[]⟩
def ZU:He.DefD:=⟨(gJ,none),gJ,gJ,defArgs HJ,defBody HJ,defScope HJ,[],[]⟩
def zl0:He.DefD:=⟨(ia,none),ia,ia,defArgs GQ,defBody GQ,defScope GQ,[],[]⟩
def zjh:He.DefD:=⟨(ie,none),ie,ie,defArgs Fv,defBody Fv,defScope Fv,[],[]⟩
def ZW:He.DefD:=⟨(uX,none),uX,uX,defArgs E3,defBody E3,defScope E3,[],[]⟩
def zk8:He.DefD:=⟨(cI,none),cI,cI,defArgs E7,defBody E7,defScope E7,[],[]⟩
def zkt:He.DefD:=⟨(fV,none),fV,fV,defArgs Fp,defBody Fp,defScope Fp,[],[]⟩
def zk2:He.DefD:=⟨(cT,none),cT,cT,defArgs Fo,defBody Fo,defScope Fo,[],[]⟩
def zlp:He.DefD:=⟨(cX,none),cX,cX,defArgs Hu,defBody Hu,defScope Hu,[],[]⟩
def ZA:He.DefD:=⟨(aF,none),aF,aF,defArgs Hw,defBody Hw,defScope Hw,[],[]⟩
def zk3:He.DefD:=⟨(cS,none),cS,cS,defArgs E9,defBody E9,defScope E9,[],[]⟩
def zki:He.DefD:=⟨(d9,none),d9,d9,defArgs HF,defBody HF,defScope HF,[],[]⟩
def ZY:He.DefD:=⟨(gM,none),gM,gM,defArgs EV,defBody EV,defScope EV,[],[]⟩
def ZG:He.DefD:=⟨(C0,none),C0,C0,defArgs HC,defBody HC,defScope HC,[],[]⟩
def zjj:He.DefD:=⟨(bU,none),bU,bU,defArgs EZ,defBody EZ,defScope EZ,[],[]⟩
def zkx:He.DefD:=⟨(ij,none),ij,ij,defArgs Ft,defBody Ft,defScope Ft,[],[]⟩
def zj1:He.DefD:=⟨(CW,none),CW,CW,defArgs HH,defBody HH,defScope HH,[],[]⟩
def zj4:He.DefD:=⟨(pf,none),pf,pf,defArgs GX,defBody GX,defScope GX,[],[]⟩
def ZQ:He.DefD:=⟨(u5,none),u5,u5,defArgs EW,defBody EW,defScope EW,[],[]⟩
def zk4:He.DefD:=⟨(mZ,none),mZ,mZ,defArgs Hv,defBody Hv,defScope Hv,[],[]⟩
def zjg:He.DefD:=⟨(CY,none),CY,CY,defArgs Ht,defBody Ht,defScope Ht,[],[]⟩
def Z4:He.DefD:=⟨(eY,none),eY,eY,defArgs Fl,defBody Fl,defScope Fl,[],[]⟩
def zkq:He.DefD:=⟨(pj,none),pj,pj,defArgs G0,defBody G0,defScope G0,[],[]⟩
def ZI:He.DefD:=⟨(cg,none),cg,cg,defArgs Fi,defBody Fi,defScope Fi,[],[]⟩
def Z9:He.DefD:=⟨(bJ,none),bJ,bJ,defArgs HA,defBody HA,defScope HA,[],[]⟩
def zll:He.DefD:=⟨(uY,none),uY,uY,defArgs GZ,defBody GZ,defScope GZ,[],[]⟩
def zk5:He.DefD:=⟨(ka,none),ka,ka,defArgs Hr,defBody Hr,defScope Hr,[],[]⟩
def zjk:He.DefD:=⟨(bt,none),bt,bt,defArgs BJ,defBody BJ,defScope BJ,[],[]⟩
def zlk:He.DefD:=⟨(d6,none),d6,d6,defArgs GV,defBody GV,defScope GV,[],[]⟩
def zje:He.DefD:=⟨(j7,none),j7,j7,defArgs GK,defBody GK,defScope GK,[],[]⟩
def ZK:He.DefD:=⟨(bO,none),bO,bO,defArgs GU,defBody GU,defScope GU,[],[]⟩
def zj7:He.DefD:=⟨(cH,none),cH,cH,defArgs HB,defBody HB,defScope HB,[],[]⟩
def ZR:He.DefD:=⟨(cz,none),cz,cz,defArgs GC,defBody GC,defScope GC,[],[]⟩
def zke:He.DefD:=⟨(dt,none),dt,dt,defArgs Fj,defBody Fj,defScope Fj,[],[]⟩
def zls:He.DefD:=⟨(d7,none),d7,d7,defArgs HM,defBody HM,defScope HM,[],[]⟩
def Z5:He.DefD:=⟨(ir,none),ir,ir,defArgs HK,defBody HK,defScope HK,[],[]⟩
def zkm:He.DefD:=⟨(bV,none),bV,bV,defArgs GO,defBody GO,defScope GO,[],[]⟩
def Zz:He.DefD:=⟨(cU,none),cU,cU,defArgs Hk,defBody Hk,defScope Hk,[],[]⟩
def zlx:He.DefD:=⟨(fh,none),fh,fh,defArgs BH,defBody BH,defScope BH,[],[]⟩
def zjm:He.DefD:=⟨(fj,none),fj,fj,defArgs E5,defBody E5,defScope E5,[],[]⟩
def zj6:He.DefD:=⟨(bP,none),bP,bP,defArgs Hc,defBody Hc,defScope Hc,[],[]⟩
def ZH:He.DefD:=⟨(dw,none),dw,dw,defArgs GS,defBody GS,defScope GS,[],[]⟩
def zle:He.DefD:=⟨(gi,none),gi,gi,defArgs GY,defBody GY,defScope GY,[],[]⟩
def zjs:He.DefD:=⟨(fP,none),fP,fP,defArgs Gy,defBody Gy,defScope Gy,[],[]⟩
def Z7:He.DefD:=⟨(cb,none),cb,cb,defArgs Fn,defBody Fn,defScope Fn,[],[]⟩
def zlo:He.DefD:=⟨(e7,none),e7,e7,defArgs E4,defBody E4,defScope E4,[],[]⟩
def zlq:He.DefD:=⟨(cA,none),cA,cA,defArgs EY,defBody EY,defScope EY,[],[]⟩
def Vm:He.DefD:=⟨("law",none),"law","law",defArgs C3,defBody C3,defScope C3,[],[]⟩
def Vb:He.DefD:=⟨("NoKind",some "__init__"),"__init__","NoKind.__init__",defArgs Fs,defBody Fs,defScope Fs,[],[]⟩
def Vg:He.DefD:=⟨("Endless",some "__init__"),"__init__","Endless.__init__",defArgs Fh,defBody Fh,defScope Fh,[],[]⟩
def L8:He.DefD:=⟨("Book",some "__init__"),"__init__","Book.__init__",defArgs rE,defBody rE,defScope rE,[],[]⟩
def L7:He.DefD:=⟨("Book",some eU),eU,"Book.names",defArgs wI,defBody wI,defScope wI,[],[]⟩
def L5:He.DefD:=⟨("Book",some "spreads"),"spreads","Book.spreads",defArgs wG,defBody wG,defScope wG,[],[]⟩
def L6:He.DefD:=⟨("Book",some "rules"),"rules","Book.rules",defArgs wH,defBody wH,defScope wH,[],[]⟩
def L4:He.DefD:=⟨("Duel",some "__init__"),"__init__","Duel.__init__",defArgs wF,defBody wF,defScope wF,[],[]⟩
def LY:He.DefD:=⟨("Duel",some CV),CV,"Duel.turn",defArgs wy,defBody wy,defScope wy,[],[]⟩
def L0:He.DefD:=⟨("Duel",some m7),m7,"Duel.groves",defArgs wB,defBody wB,defScope wB,[],[]⟩
def L1:He.DefD:=⟨("Duel",some CZ),CZ,"Duel.fall",defArgs wC,defBody wC,defScope wC,[],[]⟩
def L3:He.DefD:=⟨("Duel",some ni),ni,"Duel.answer",defArgs wD,defBody wD,defScope wD,[],[]⟩
def LZ:He.DefD:=⟨("Duel",some fT),fT,"Duel.outlasted",defArgs wz,defBody wz,defScope wz,[],[]⟩
def fn:List He.DefD:=[zl2,zj8,ZJ,zky,ZE,zjw,Z8,zlg,zlr,zkd,zkg,zk0,zl5,ZN,ZX,zkf,zjo,zk9,zks,zlb,zjb,ZC,ZO,zl4,zld,zj3,zlu,zk1,zjz,zl9,zj2,zln,zjf,ZU,zl0,zjh,ZW,zk8,zkt,zk2,zlp,ZA,zk3,zki,ZY,ZG,zjj,zkx,zj1,zj4,ZQ,zk4,zjg,Z4,zkq,ZI,Z9,zll,zk5,zjk,zlk,zje,ZK,zj7,ZR,zke,zls,Z5,zkm,Zz,zlx,zjm,zj6,ZH,zle,zjs,Z7,zlo,zlq,Vm,Vb,Vg,L8,L7,L5,L6,L4,LY,L0,L1,L3,LZ]
def Zm:List He.Fa:=[.glo dR,.glo fX,.glo iq,.glo eZ,.glo gK,.glo ik,.glo m6,.glo fW,.glo dS,.glo a8,.glo fO,.glo j5,.glo uW,.glo bf,.glo cG,.glo ig,.glo fY,.glo a5,.glo cW,.glo bQ,.glo fZ,.glo j9,.glo j8,.glo ff,.glo hY,.glo fU,.glo cu,.glo ng,.glo j6,.glo dv,.glo d8,.glo uZ,.glo dq,.glo gJ,.glo ia,.glo ie,.glo uX,.glo cI,.glo fV,.glo cT,.glo cX,.glo aF,.glo cS,.glo d9,.glo gM,.glo C0,.glo bU,.glo ij,.glo CW,.glo pf,.glo u5,.glo mZ,.glo CY,.glo eY,.glo pj,.glo cg,.glo bJ,.glo uY,.glo ka,.glo bt,.glo d6,.glo j7,.glo bO,.glo cH,.glo cz,.glo dt,.glo d7,.glo ir,.glo bV,.glo cU,.glo fh,.glo fj,.glo bP,.glo dw,.glo gi,.glo fP]
def Zl:List He.Fa:=[.glo cb,.glo e7,.glo cA,.glo "law",.free "len",.free "isinstance",.free "int",.free "bool",.free "str",.free "tuple",.free "list",.free "all",.free "zip",.free "sum",.free "max",.free "range",.free "enumerate",.free "abs",.free "sorted",.free "min",.free "reversed",.free "any",.free "set",.free "dict",.free "repr",.glo "FellError",.free "ValueError",.glo "NoRest",.glo "NoPlace",.glo "NoBook",.glo "NoKind",.glo "NoRule",.glo "NoNumber",.glo "TooGreat",.glo "Endless",.glo "NoReach",.noat "NoKind" "kind",.noat "Endless" "kind",.str "LETTERS" "abcdefghijklmnopqrstuvwxyz",.int "LONGEST_NAME" (8),.int "MOST_KINDS" (8),.int "MOST_RULES" (4),.int "MOST_RULE_PARTS" (4),.int "MOST_MANY" (1000000000),.int "MOST_PARTS_STANDING" (2000),.int "MOST_DEEP_STANDING" (60),.glo "NO_GROVES",.exc "NoBook",.exc "NoNumber",.exc "NoPlace",.exc "NoReach",.exc "NoRest",.exc "NoRule",.exc "TooGreat",.meth "NoKind" "__init__",.meth "Endless" "__init__",.glo "Book",.cls "Book",.noat "Book" "spread_by_name",.noat "Book" "rows_by_name",.mkr "Book",.meth "Book" eU,.meth "Book" "spreads",.meth "Book" "rules",.glo "Duel",.cls "Duel",.noat "Duel" "books",.noat "Duel" "standing",.noat "Duel" "hand",.mkr "Duel",.meth "Duel" CV,.meth "Duel" m7,.meth "Duel" CZ,.meth "Duel" ni,.meth "Duel" fT]
def fa:List He.Fa:=Zm++Zl
def Bv (K:Qn):Bool:=O1 K (He.ga K "NoKind")&&(O1 K (He.ga K "Endless")&&(no2B K (He.ga K "NO_GROVES")&&(LW K (He.ga K) eC eN)))
abbrev R:PySem.W.OpenRow:=PySem.W.OpenLaw.row PySem.Challenge.rw_felltimber_k60_whole_duel_to_the_end
def Ue:List Addr:=[3,6,4,21,28,35,40,47,52,59,69,82,94,106,125,137,149,161,180,192,201,206,213,220,227,232,239,244,251,256,259,295,306,313,320,325,330,335,340,347,352,357,364,371,378,385,392,399,406,413,418,423,428,433,438,445,452,459,466,471,478,483,488,495,502,507,514,521,526,533,538,545,552,559,564,571,578,585,592,599,604,611,663,674,681,688,693,698,705,712,719,726,731,736,741,746,0,20,27,34,39,46,51,58,68,81,93,105,124,136,148,160,179,191,200,205,212,219,226,231,238,243,250,255,257,258,294,305,312,319,324,329,334,339,346,351,356,363,370,377,384,391,398,405,412,417,422,427,432,437,444,451,458,465,470,477,482,487,494,501,506,513,520,525,532,537,544,551,558,563,570,577,584,591,598,603,610,662,673,680,687,692,697,704,711,718,725,730,735,740,745,15,16,17,18,19,22,23,24,25,26,29,30,31,32,33,36,37,38,41,42,43,44,45,48,49,50,53,54,55,56,57,67,70,80,92,104,122,123,135,147,159,177,178,190,195,196,197,198,199,202,203,204,207,208,209,210,211,214,215,216,217,218,221,222,223,224,225,228,229,230,233,234,235,236,237,240,241,242,245,246,247,248,249,252,253,254,271,278,285,292,293,296,297,300,301,302,303,304,307,308,309,310,311,314,315,316,317,318,321,322,323,326,327,328,331,332,333,336,337,338,341,342,343,344,345,348,349,350,353,354,355,358,359,360,361,362,365,366,367,368,369,372,373,374,375,376,379,380,381,382,383,386,387,388,389,390,393,394,395,396,397,400,401,402,403,404,407,408,409,410,411,414,415,416,419,420,421,424,425,426,429,430,431,434,435,436,439,440,441,442,443,446,447,448,449,450,453,454,455,456,457,460,461,462,463,464,467,468,469,472,473,474,475,476,479,480,481,484,485,486,489,490,491,492,493,496,497,498,499,500,503,504,505,508,509,510,511,512,515,516,517,518,519,522,523,524,527,528,529,530,531,534,535,536,539,540,541,542,543,546,547,548,549,550,553,554,555,556,557,560,561,562,565,566,567,568,569,572,573,574,575,576,579,580,581,582,583,586,587,588,589,590,593,594,595,596,597,600,601,602,605,606,607,608,609,625,632,639,646,653,660,661,664,665,668,669,670,671,672,675,676,677,678,679,682,683,684,685,686,689,690,691,694,695,696,699,700,701,702,703,706,707,708,709,710,713,714,715,716,717,720,721,722,723,724,727,728,729,732,733,734,737,738,739,742,743,744,121,176,270,277,284,291,624,631,638,645,652,659,116,117,118,119,120,171,172,173,174,175,267,268,269,272,273,274,275,276,279,280,281,282,283,286,287,288,289,290,619,620,621,622,623,626,627,628,629,630,633,634,635,636,637,640,641,642,643,644,647,648,649,650,651,654,655,656,657,658]
def DF (as:List Addr) (fa:List He.Fa) (fn:List He.DefD) (ex:Qn->Bool) (g:Addr->Option Obj):Ni:=(He.obsD fa fn (He.frG g as),ex (He.frG g as))
def UK (as:List Addr) (fa:List He.Fa) (fn:List He.DefD) (ex:Qn->Bool):PySem.W.Hook where
 α:=Ni
 obs:=fun s=>DF as fa fn ex s.heap.get?
 val:=fun _=>(He.valD fn,true)
 says:=fun _ h=>∃ K:Qn,K.In h/\He.SaysD fa fn K/\ex K=true
 of:=fun _ _ e=>⟨_,He.frG_in,congrArg (fun z:Ni=>z.1) e,congrArg (fun z:Ni=>z.2) e⟩
 keeps:=fun _ _ _ ⟨K,hK,c⟩ k=>⟨K,PySem.W.Frag.In.keeps hK k,c⟩
theorem zf9 {as:List Addr} {fa:List He.Fa} {fn:List He.DefD} {ex:Qn->Bool} {g:Addr->Option Obj} {s:Shared} (h:∀ a,g a=s.heap.get? a):DF as fa fn ex g=(UK as fa fn ex).obs s:=by
 have e:g=s.heap.get?:=funext h;rw [e] <;> rfl
abbrev hk:PySem.W.Hook:=UK Ue fa fn Bv
def ob (s:PySem.W.SharedT):Ni:=DF Ue fa fn Bv (HandSHeadRun.getT s)
theorem ob_eq (s:PySem.W.SharedT):ob s=hk.obs s.abs:=zf9 (HandSHeadRun.getT_eq s)
def loose:List PySem.Str:=([dR,fX,iq,eZ,gK,ik,m6,"FellError","NoRest","NoPlace","NoBook","NoKind"]:List PySem.Str)++(["NoRule","NoNumber","TooGreat","Endless","NoReach",fW,dS,a8,fO,j5,uW,bf]:List PySem.Str)++([cG,ig,fY,"Book",a5,cW,bQ,fZ,j9,j8,ff,hY]:List PySem.Str)++([fU,cu,ng,j6,dv,d8,uZ,dq,gJ,ia,ie,uX]:List PySem.Str)++([cI,fV,cT,cX,aF,cS,d9,gM,C0,bU,ij,CW]:List PySem.Str)++([pf,u5,mZ,CY,eY,pj,cg,bJ,uY,ka,bt,d6]:List PySem.Str)++([j7,bO,cH,cz,dt,d7,"Duel",ir,bV,cU,fh,fj]:List PySem.Str)++([bP,dw,gi,fP,cb,e7,cA,"LETTERS","LONGEST_NAME","MOST_DEEP_STANDING","MOST_KINDS","MOST_MANY"]:List PySem.Str)++(["MOST_PARTS_STANDING","MOST_RULES","MOST_RULE_PARTS","NO_GROVES"]:List PySem.Str)
def Gn (s:PySem.W.SharedT):Qn:=He.frG (HandSHeadRun.getT s) Ue
theorem Q0 (w:World) (os:PySem.OsState):(HandSHeadRun.endF (HandSHeadRun.stepQ (HandSHeadRun.denQ HandSHeadRun.tabQ) R.prog w) 9000 R.prog w os).map (fun s=>HandSHeadRun.looksF R.prog (PySem.W.boot_heap w.params) s.abs)=some true:=by
 kernel_rfl
theorem QZ (w:World) (os:PySem.OsState):(HandSHeadRun.endF (HandSHeadRun.stepQ (HandSHeadRun.denQ HandSHeadRun.tabQ) R.prog w) 9000 R.prog w os).map (fun s=>HandSHeadRun.seenQ (PySem.W.view R.prog [114]) loose (importedModules R.prog.main.body) (fun s=>xlAt (PySem.W.view R.prog [114]) [] s&&recOk R.toRowW.records s) s.abs)=some (openGood (PySem.W.view R.prog [114]) loose):=by
 kernel_rfl
theorem QY (w:World) (os:PySem.OsState):(HandSHeadRun.endF (HandSHeadRun.stepQ (HandSHeadRun.denQ HandSHeadRun.tabQ) R.prog w) 9000 R.prog w os).map (fun s=>Zm.all fun f=>f.ok (Gn s))=some true:=by
 kernel_rfl
theorem QX (w:World) (os:PySem.OsState):(HandSHeadRun.endF (HandSHeadRun.stepQ (HandSHeadRun.denQ HandSHeadRun.tabQ) R.prog w) 9000 R.prog w os).map (fun s=>Zl.all fun f=>f.ok (Gn s))=some true:=by
 kernel_rfl
theorem QW (w:World) (os:PySem.OsState):(HandSHeadRun.endF (HandSHeadRun.stepQ (HandSHeadRun.denQ HandSHeadRun.tabQ) R.prog w) 9000 R.prog w os).map (fun s=>fn.all fun d=>d.ok (Gn s))=some true:=by
 kernel_rfl
theorem QV (w:World) (os:PySem.OsState):(HandSHeadRun.endF (HandSHeadRun.stepQ (HandSHeadRun.denQ HandSHeadRun.tabQ) R.prog w) 9000 R.prog w os).map (fun s=>fn.map fun d=>He.fnW (Gn s) d.at_)=some (fn.map He.DefD.val):=by
 kernel_rfl
theorem QU (w:World) (os:PySem.OsState):(HandSHeadRun.endF (HandSHeadRun.stepQ (HandSHeadRun.denQ HandSHeadRun.tabQ) R.prog w) 9000 R.prog w os).map (fun s=>Bv (Gn s))=some true:=by
 kernel_rfl
theorem Rl {σ α β γ:Type} {o:Option σ} {A:σ->α} {B:σ->β} {C:σ->γ} {a:α} {b:β} {c:γ} (h1:o.map A=some a) (h2:o.map B=some b) (h3:o.map C=some c):o.map (fun s=>(A s,B s,C s))=some (a,b,c):=by
 cases o with
 | none=>cases h1
 | some s=>exact congrArg some (Prod.ext (Yd h1) (Prod.ext (Yd h2) (Yd h3)))
theorem Rk {σ:Type} {o:Option σ} {f1 f2:List He.Fa} {gn:List He.DefD} {ex:Qn->Bool} (K:σ->Qn) (h1:o.map (fun s=>f1.all fun f=>f.ok (K s))=some true) (h2:o.map (fun s=>f2.all fun f=>f.ok (K s))=some true) (h3:o.map (fun s=>gn.all fun d=>d.ok (K s))=some true) (h4:o.map (fun s=>gn.map fun d=>He.fnW (K s) d.at_)=some (gn.map He.DefD.val)) (h5:o.map (fun s=>ex (K s))=some true):o.map (fun s=>(He.obsD (f1++f2) gn (K s),ex (K s)))=some (He.valD gn,true):=by
 cases o with
 | none=>cases h1
 | some s =>
  have e1:(f1.all fun f=>f.ok (K s))=true:=Yd h1;have e2:(f2.all fun f=>f.ok (K s))=true:=Yd h2;have e3:(gn.all fun d=>d.ok (K s))=true:=Yd h3;have e4:(gn.map fun d=>He.fnW (K s) d.at_)=gn.map He.DefD.val:=Yd h4;have e5:ex (K s)=true:=Yd h5;refine congrArg some (Prod.ext (Prod.ext ?_ e4) e5);show (((f1++f2).all fun f=>f.ok (K s))&&gn.all fun d=>d.ok (K s))=true;rw [List.all_append,e1,e2,e3]; rfl
theorem run (w:World):HandSHeadRun.RunEq R (PySem.W.view R.prog [114]) hk ob 9000 loose w:=by
 intro os;exact Rl (Q0 w os) (QZ w os) (Rk Gn (QY w os) (QX w os) (QW w os) (QV w os) (QU w os))
theorem fS {N P:List Str} {s:Scope} (a:s.kind=.function:=by exact rfl) (b:s.isCoroutine=false:=by exact rfl) (c:s.isGenerator=false:=by exact rfl) (d:N.Nodup:=by decide +kernel) (e:N.take P.length=P:=by exact rfl) (f:∀ x,x ∈ P->s.names.lookup x=some .local\/s.names.lookup x=some .cell:=by decide +kernel) (g:∀ y,y ∈ s.names->y.2≠.free:=by decide +kernel):FnScope N P s:=⟨a,b,c,d,e,f,g⟩
section
variable {P:Program} {w:World} {K:Qn} {mg:Str->Option Value} {base:Heap} {f:Addr} {fd:FuncData} {ps:List Addr}
theorem zh0:FnScope [aq] [aq] (defScope GP):=fS
theorem zgo (B:BI mg) (F:Fun K dR dR GP f fd):FnOk P w K mg base CX0 1 f fd [aq] (HZ K):=by
 refine F.ok zh0 (fun vs H Q E h=>?_) (fun _ A _ _ H vs Q E hr h=>?_)
 ·obtain ⟨v,n,b1,b2,rfl,_⟩:=h
  rfl
 obtain ⟨v,n,b1,b2,rfl,ty,k1,k2,q⟩:=h;refine ⟨_,Qe (Qj (pe_and (xC B (pv 0) B.int boot_int) (pe_one (pe_not (xC B (pv 0) B.bool boot_bool))))),?_⟩;refine ⟨_,Ja,_,_,n,b1,Ja,ty,k1,b1,Ja,?_⟩;cases b1 with
 | false=>exact iteF q
 | true =>
  refine iteT ⟨_,Ja,_,_,n,b2,Ja,ty,k2 rfl,b2,Ja,?_⟩;exact q
end
section
variable {P:Program} {w:World} {K:Qn} {mg:Str->Option Value} {base:Heap} {f:Addr} {fd:FuncData} {ps:List Addr}
theorem zg1:FnScope [aq] [aq] (defScope Hs):=fS
theorem zgq {ps:List Addr} (B:BI mg) (G:Got P w K mg base dR [aq] 1 (HZ K)) (F:Fun K fX fX Hs f fd):FnOk P w K mg base CX0 2 f fd [aq] (Ny K ps):=by
 refine F.ok zg1 (fun vs H Q E h=>?_) (fun _ A _ _ H vs Q E hr h=>?_)
 ·obtain ⟨v,d,rfl,_⟩:=h
  rfl
 obtain ⟨v,d,rfl,th,q⟩:=h;refine ⟨_,Qe (Qj (pe_and (bc G hr rfl (Qa (pv 0) Qb)) (pe_one (pe_cmpR op_ge (pv 0) Qg (nomark _))))),?_⟩;obtain ⟨n,b1,b2,ty,k1,k2,y1,y2⟩:=th.whole;refine ⟨_,Ja,v,n,b1,b2,Ja,ty,k1,k2,b1&&!b2,Ja,?_⟩;cases e:(b1&&!b2) with
 | false =>
  refine iteF ?_;rw [y2 e] at q;exact q
 | true =>
  obtain ⟨i,rfl,rfl⟩:=y1 e;exact iteT ⟨_,Ja,_,_,Ja,Ja,q⟩
end
section
variable {P:Program} {w:World} {K:Qn} {mg:Str->Option Value} {base:Heap} {f:Addr} {fd:FuncData}
theorem zi0:FnScope [aq] [aq] (defScope G6):=fS
theorem ziq (B:BI mg) (L:∃ t,mg "LETTERS"=some (.str ti t)) (N:∃ t,mg "LONGEST_NAME"=some (.int 8 t)) (G:Got P w K mg base m6 ["text",wa,"signs"] 1 (VX K)) (F:Fun K iq iq G6 f fd):FnOk P w K mg base CX0 2 f fd [aq] (O4 K):=by
 refine F.ok zi0 (fun vs H Q E h=>?_) (fun _ A _ _ H vs Q E hr h=>?_)
 ·obtain ⟨v,d,rfl,_⟩:=h
  rfl
 obtain ⟨v,d,rfl,th,q⟩:=h;obtain ⟨tl,hL⟩:=L;obtain ⟨tn,hN⟩:=N;refine ⟨_,Qc (Qr (PW.pt (Kk (Qp (Qo (xC B (pv 0) B.str boot_str))) (pw_or1 (Qp (pt_chain op_le op_le Qg (Qs call_len_str rfl B.len PySem.boot_len (Qa (pv 0) Qb)) (pe_glob (v:=.int 8) rfl hN ⟨_,Ja⟩)))))) (Qe (Qj pe_bl)) pss_nil)
  (Qe (Qj (pe_cmpR op_eq (bc G hr rfl (Qa (pv 0) (Qa Qg (Qa (pe_glob (v:=.str ti) rfl hL ⟨_,rfl⟩) Qb)))) (pv 0) (nomark _)))),?_⟩
 obtain ⟨n1,b,ty,kb,y1,y2⟩:=th.txt;refine ⟨_,Ja,_,_,n1,b,Ja,ty,kb,b,Ja,?_⟩;cases b with
 | false =>
  refine iteT (iteT ?_);have e:wb d=false:=by
   cases d with
   | str z=>exact absurd rfl (y2 rfl z)
   | _=>simp [wb]
  have:=q H SB.refl;rw [e] at this;exact this
 | true =>
 refine iteF ?_;obtain ⟨z,rfl,rfl,hz⟩:=y1 rfl;have B3:z.length<=sizeLine:=by have:=sizeLine_eq; omega
 refine ⟨_,Ja,z,Ja,B3,_,_,Ja,Ja,_,Ja,?_⟩;by_cases h1:1<=z.length
 ·rw [show decide ((1:Int)<=(z.length:Int))=true from Ya (by omega)];refine iteT ⟨_,_,Ja,Ja,_,Ja,?_⟩;by_cases h8:z.length<=8
  ·rw [show decide ((z.length:Int)<=8)=true from Ya (by omega)];refine iteF ?_;refine ⟨_,Ja,z,ti,0,Ja,by omega,Nat.zero_le _,fun e _ he Aa uD=>?_⟩;refine ⟨_,Ja,Ja,?_⟩;have:=q H SB.refl;rw [<- zd1 h1 h8 he Aa uD] at this;exact this
  ·rw [show decide ((z.length:Int)<=8)=false from Qz (by omega)];have:=q H SB.refl;rw [Wu fun h=>h8 h.2] at this;exact iteT this
 ·rw [show decide ((1:Int)<=(z.length:Int))=false from Qz (by omega)];have:=q H SB.refl;rw [Wu fun h=>h1 h.1] at this;exact iteF ⟨_,Ja,iteT this⟩
end
section
variable {P:Program} {w:World} {K:Qn} {mg:Str->Option Value} {base:Heap} {f:Addr} {fd:FuncData} {ps:List Addr}
theorem pP:FnScope WK [cF] (defScope C4):=fS
theorem zh2 (B:BI mg) (F:Fun K eZ eZ C4 f fd):FnOk P w K mg base CX0 1 f fd [cF] (Wr K):=by
 refine F.ok pP (fun vs H Q E h=>?_) (fun uP A _ s H vs Q E hr h=>?_)
 ·obtain ⟨v,n,b1,rfl,_⟩:=h
  rfl
 obtain ⟨a,xs,ds,rfl,hS,S4,hok,nV,hz,q⟩:=h;have hu:A.units+200 < cLine:=by have:=hr.un; show A.units+200 < cLine; have h3:(A.deeper (envOfC eZ (defScope C4) s.heap.objs.size f uP)).units=A.units+3:=rfl; omega
 refine ⟨_,Qe (Qj (Qs (cr_all rfl) rfl B.all boot_all (Qa
  (pe_lc (own:=[("low",1),("high",2)]) (g:=gTup K 2 (gCons (gName 1) (gCons (gName 2) gNil))) (tt:=tYes) (te:=tOp (IQ K) (tVar 1) (tVar 2)) rfl pP.nd
   (pi_zip rfl B.zip (Qa (pv 0) (Qa (pe_slice sl_list (pv 0) (po_some Qg) po_none) Qb)))
   (blkOk_by (N:=WK) (sc:=defScope C4) (by decide +kernel))
   (fun _ _ _ _ _=>pg_tup rfl (Qi (pg_name (i:=1) pP.nd rfl (.inl rfl)) (Qi (pg_name (i:=2) pP.nd rfl (.inl rfl)) pgs_nil)))
   (fun _ _ _ _ _=>pts_nil)
   (fun _ _ _ _ _=>pe_cmpR (Vv (by have:=hu; show A.units+3+100 < cLine; omega)) (pv 1) (pv 2) (nomark _))) Qb))),?_⟩
 refine ⟨_,Ja,_,Ja,1,Ja,a,xs,Ja,hS,fun p hp=>?_⟩;rw [L9];have e1:SB [] H (upd H p (.lst (xs.drop 1))):=SB.new hp _;refine ⟨a,p,xs,xs.drop 1,Ja,e1.fu aL hS,SqL.of Qt,fun D hD=>?_⟩;have hpD:p ≠ D:=fun z=>by subst z; rw [Qt] at hD; cases hD
 have dl:ds.length=xs.length:=(DpAll.length S4).symm;refine lc_it (walk_zip (n:=min xs.length (xs.drop 1).length) rfl) (fun i H2=>SB [D] (upd H p (.lst (xs.drop 1))) H2/\H2 D=some (.lst (((ltsD ds).take i).map V.bl))) ⟨SB.new hD _,Qt⟩ (fun i H2 hi h2=>?_) (fun i x H2 H' hi h2 y=>?_) (fun H2 h2=>?_)
 ·obtain ⟨h2,h3⟩:=h2;have h4:=h2.drop hD;exact ⟨(e1.trans h4).fu aL hS,h4.fu aL (SqL.of Qt)⟩
 ·obtain ⟨h2,h3⟩:=h2;have h4:=e1.trans (h2.drop hD);obtain ⟨T,x1,y1,rfl,hT,rfl,ex,ey⟩:=y;have ey:(xs.drop 1)[i]?=some y1:=ey;rw [List.getElem?_drop,Nat.add_comm] at ey;obtain ⟨d,ed,hd⟩:=DpAll.get S4 ex;obtain ⟨d',Zr,Ac⟩:=DpAll.get (i:=i+1) S4 ey;have e5:SB [] H (upd H2 T (.tup [x1,y1])):=h4.trans (SB.new hT _);have m1:=Qu ed;have m2:=Qu Zr;have Y3:D ≠ T:=fun z=>by subst z; rw [h3] at hT; cases hT
  refine ⟨T,_,Ja,SqT.of Qt,Ja,_,_,Ja,_,_,Ja,Ja,Ja,?_⟩;refine ⟨_,Ja,_,Ja,d,d',fK e5 _ _ (hok d m1).1 hd,fK e5 _ _ (hok d' m2).1 Ac,nV d m1 d' m2,(hok d m1).2.1,(hok d m1).2.2,_,by rw [upd_ne Y3]; exact h3,?_,?_⟩
  ·have:=QE ds;rw [Ye,Kx];exact xE (by omega)
  ·refine ⟨(h2.trans (SB.new hT _)).trans (SB.set (by rw [upd_ne Y3]; exact h3) (by simp) _),?_⟩;rw [Qt,Yg,WH ds i d d' ed Zr];simp
 ·obtain ⟨h2,h3⟩:=h2;have h4:=e1.trans (h2.drop hD);have e6:(ltsD ds).take (min xs.length (xs.drop 1).length)=ltsD ds:=by
   apply List.take_of_length_le;rw [QE,List.length_drop];omega
  rw [e6] at h3;exact ⟨D,_,Ja,SqL.of h3,q _ h4⟩
end
section
variable {P:Program} {w:World} {K:Qn} {mg:Str->Option Value} {base:Heap} {f:Addr} {fd:FuncData}
abbrev zb5:List Str:=[dQ,"row",aq,aX]
theorem fL:FnScope zb5 [dQ] (defScope C6):=fS
theorem z9w {γ:Type} [DecidableEq γ] {enc:γ->PyData} (D4:∀ g,gH (enc g)=true) (heq:∀ g h,PyData.eqv (enc g) (enc h)=decide (g=h)) (B:BI mg) (F:Fun K gK gK C6 f fd):FnOk P w K mg base CX0 1 f fd [dQ] (Wz K enc):=by
 refine F.ok fL (fun vs H Q E h=>?_) (fun _ A _ _ H vs Q E hr h=>?_)
 ·obtain ⟨a,xs,bs,rfl,_⟩:=h
  rfl
 obtain ⟨a,xs,bs,rfl,hs,hb,hl,Jo,q⟩:=h;have bq:=bh hr;refine ⟨_,Qc (ps_set (i:=1) fL.nd rfl (.inl rfl) (pe_lst Qb))
  (Qc (ps_for PassesOwn.never rfl (pi_list (pv 0)) (pg_tup rfl (Qi (pg_name (i:=2) fL.nd rfl (.inl rfl)) (Qi (pg_name (i:=3) fL.nd rfl (.inl rfl)) pgs_nil)))
   (Qe (Qr (PW.pt (pw_and (pt_truth (pv 1) (by intro _; rfl)) (pw_and1 (pt_cmpR (op_eqD (Dm hr)) (Qm Ql (Qm ix_list (pv 1) (pe_un un_neg Qg) (fun _ _=>rfl)) Qg (fun _ _=>rfl)) (pv 2) (nomark _)))))
    (Qe (ps_asg (Ka (Qa (pv 2) (Qa (pe_op Ko (Qm Ql (Qm ix_list (pv 1) (pe_un un_neg Qg) (fun _ _=>rfl)) Qg (fun _ _=>rfl)) (pv 3)) Qb))) (pg_sub (pv 1) (pe_un un_neg Qg) set_list)))
    (Qe (Kf (Kn Ki PySem.F.slot_list_append PySem.F.type_list_append mt_append (pv 1) (Qa (Ka (Qa (pv 2) (Qa (pv 3) Qb))) Qb)))))))
  (Qe (Qj (pe_callTy call_tuple_of rfl B.tuple boot_tuple (Qa (pv 1) Qb))))),?_⟩
 refine ⟨(Z0),fun D hD=>?_⟩;have t0:=Jb hD (.lst []);refine ⟨_,Ja,a,Ja,⟨xs,t0.fu aL hs⟩,?_⟩;have xl:=hb.length;refine for_list (K:=K) (a:=a) (xs:=xs) (fun i σ H2=>SB [D] H H2/\∃ acc o2 o3,σ=[some (.ref a),some (.ref D),o2,o3]/\H2 D=some (.lst acc)/\Bears K H2 (kR enc) acc (jn (bs.take i))) ⟨SB.new hD _,[],none,none,Ja,Qt,.nil⟩ (fun i σ H2 hi h2=>(h2.1.drop hD).fu aL hs) (fun i x σ H2 hx h2=>?_) (fun σ H2 h2=>?_)
 ·obtain ⟨s2,acc,o2,o3,rfl,aW,bY⟩:=h2;have hQ:=s2.drop hD;obtain ⟨p,ep,eJ⟩:=hb.get hx;have pm:=Qu ep;obtain ⟨ad,ux,rfl,xb,yF⟩:=NB eJ;have al:=bY.length;have jl:=NY (bs.take i);rw [Kx] at jl;have nl:=N0 D4;rw [O9 bs i p ep];have qj:=fK hQ _ _ (D4 _) yF;refine ⟨ad,_,Ja,hQ.aP xb,Ja,_,_,Ja,_,_,Ja,Ja,?_⟩
  -- the row ahead: none,or a last one
  have app:fb (jn (bs.take i)) p=jn (bs.take i)++[p]->tDrop (tBM K "list" rAppend (tVar 1) (tCons (tTup (tCons (tVar 2) (tCons (tVar 3) tNil))) tNil)) { nx:=fun σ H2=>SB [D] H H2/\∃ acc o2 o3,σ=[some (.ref a),some (.ref D),o2,o3]/\H2 D=some (.lst acc)/\Bears K H2 (kR enc) acc (fb (jn (bs.take i)) p),rt:=Q } [some (.ref a),some (.ref D),some ux,some (.int p.2)] H2:=by
   intro e;rw [e];refine ⟨_,Ja,.inl ⟨rfl,_,SqL.of aW⟩,_,Ja,_,Ja,(Z2),fun t ht=>?_⟩;have t3:=SB.new (ps:=[D]) ht (.tup [ux,.int p.2]);have bW:(upd H2 t (.tup [ux,.int p.2])) D=some (.lst acc):=by rw [upd_ne (ne_of_none aW ht)]; exact aW
   refine ⟨D,acc,_,Ja,Ja,bW,xE (by omega),?_⟩;have t4:=SB.set (ps:=[D]) bW (by simp) (.lst (acc++[.ref t]));exact ⟨(s2.trans t3).trans t4,_,_,_,Ja,Qt,Bears.append ((bY.sb t3 nl).sb t4 nl) (.cons (C9 (t4.aP (SqT.of Qt)) (fK t4 _ _ (D4 _) (fK t3 _ _ (D4 _) qj))) .nil)⟩
  rcases List.eq_nil_or_concat (jn (bs.take i)) with he | ⟨js,z,he⟩
  ·rw [he] at bY app;cases bY;refine ⟨_,Ja,_,.inl ⟨[],SqL.of aW,Ja⟩,iteF (iteF ?_)⟩;rw [he];exact app rfl
  ·rw [List.concat_eq_append] at he;rw [he] at bY app;rw [he];obtain ⟨us,u,rfl,B6,hu⟩:=bY.snoc;obtain ⟨az,uz,rfl,oz,JR⟩:=NB hu;have OV:SeqAt.shaped (enc z.1)=true:=by
    obtain ⟨q2,sW,eq2⟩:=BL (bs.take i) z (by rw [he]; simp);rw [<- eq2];exact Jo q2 (List.mem_of_mem_take sW)
   refine ⟨_,Ja,_,.inl ⟨us++[.ref az],SqL.of aW,Ja⟩,?_⟩;have e0:(!(us++[V.ref az]).isEmpty)=true:=by simp
   rw [e0];refine iteT ?_;refine ⟨_,Ja,1,Ja,D,_,_,_,Ja,Ja,SqL.of aW,BN,az,_,_,_,Ja,Ja,oz,atI_nat (j:=0) rfl,_,Ja,enc z.1,enc p.1,JR,qj,OV,Jo p pm,_,Ja,?_⟩;rw [heq];by_cases hz:z.1=p.1
   ·rw [show decide (z.1=p.1)=true by simp [hz]];refine iteT ?_;refine ⟨_,Ja,_,Ja,1,Ja,D,_,_,_,Ja,Ja,SqL.of aW,BN,az,_,_,_,Ja,Ja,oz,atI_nat (j:=1) rfl,_,Ja,_,_,Ja,Ja,(Z2),fun t ht=>?_⟩;have t3:=SB.new (ps:=[D]) ht (.tup [ux,.int (z.2+p.2)]);have bW:(upd H2 t (.tup [ux,.int (z.2+p.2)])) D=some (.lst (us++[.ref az])):=by rw [upd_ne (ne_of_none aW ht)]; exact aW
    refine ⟨_,Ja,1,Ja,D,_,_,us.length,Ja,Ja,bW,Wl,?_⟩;rw [WJ];have t4:=SB.set (ps:=[D]) bW (by simp) (.lst (us++[.ref t]));refine ⟨(s2.trans t3).trans t4,_,_,_,Ja,Qt,?_⟩;rw [pA,if_pos hz];exact Bears.append ((B6.sb t3 nl).sb t4 nl) (.cons (C9 (t4.aP (SqT.of Qt)) (fK t4 _ _ (D4 _) (fK t3 _ _ (D4 _) qj))) .nil)
   ·rw [show decide (z.1=p.1)=false by simp [hz]];refine iteF ?_;exact app (by rw [pA,if_neg hz])
 ·obtain ⟨s2,acc,o2,o3,rfl,aW,bY⟩:=h2;rw [xl,Yh] at bY;refine ⟨_,Ja,D,acc,Ja,.inl ⟨SqL.of aW,fun t ht=>?_⟩⟩;have t3:=Jb ht (.tup acc);exact q _ _ _ ((s2.drop hD).trans t3) (SqT.of Qt) (bY.sb t3 (N0 D4))
abbrev zk6:List Str:=[dQ,"row",aq,aX]
theorem pO:FnScope zk6 [dQ] (defScope C6):=fS
theorem zfo (B:BI mg) (F:Fun K gK gK C6 f fd):FnOk P w K mg base CX0 (1) f fd [dQ] (W5 K Gr.aC):=by
 refine F.ok pO (fun vs H Q E h=>?_) (fun _ A _ _ H vs Q E hr h=>?_)
 ·obtain ⟨a,xs,bs,rfl,_⟩:=h
  rfl
 obtain ⟨a,xs,bs,rfl,hs,hb,hl,Jo,q⟩:=h;have bq:=bh hr;refine ⟨_,Qc (ps_set (i:=1) pO.nd rfl (.inl rfl) (pe_lst Qb))
  (Qc (ps_for PassesOwn.never rfl (pi_list (pv 0)) (pg_tup rfl (Qi (pg_name (i:=2) pO.nd rfl (.inl rfl)) (Qi (pg_name (i:=3) pO.nd rfl (.inl rfl)) pgs_nil)))
   (Qe (Qr (PW.pt (pw_and (pt_truth (pv 1) (by intro _; rfl)) (pw_and1 (pt_cmpR (O8 (tE hr)) (Qm Ql (Qm ix_list (pv 1) (pe_un un_neg Qg) (fun _ _=>rfl)) Qg (fun _ _=>rfl)) (pv 2) (nomark _))))) (Qe (ps_asg (Ka (Qa (pv 2) (Qa (pe_op Ko (Qm Ql (Qm ix_list (pv 1) (pe_un un_neg Qg) (fun _ _=>rfl)) Qg (fun _ _=>rfl)) (pv 3)) Qb))) (pg_sub (pv 1) (pe_un un_neg Qg) set_list))) (Qe (Kf (Kn Ki PySem.F.slot_list_append PySem.F.type_list_append mt_append (pv 1) (Qa (Ka (Qa (pv 2) (Qa (pv 3) Qb))) Qb)))))))
  (Qe (Qj (pe_callTy call_tuple_of rfl B.tuple boot_tuple (Qa (pv 1) Qb))))),?_⟩
 refine ⟨(Z0),fun D hD=>?_⟩;have t0:=Jb hD (.lst []);refine ⟨_,Ja,a,Ja,⟨xs,t0.fu aL hs⟩,?_⟩;have xl:=hb.length;refine for_list (K:=K) (a:=a) (xs:=xs) (fun i σ H2=>SB [D] H H2/\∃ acc o2 o3,σ=[some (.ref a),some (.ref D),o2,o3]/\H2 D=some (.lst acc)/\Bears K H2 (Gr.aG) acc (jn (bs.take i))) ⟨SB.new hD _,[],none,none,Ja,Qt,.nil⟩ (fun i σ H2 hi h2=>(h2.1.drop hD).fu aL hs) (fun i x σ H2 hx h2=>?_) (fun σ H2 h2=>?_)
 ·obtain ⟨s2,acc,o2,o3,rfl,aW,bY⟩:=h2;have hQ:=s2.drop hD;obtain ⟨p,ep,eJ⟩:=hb.get hx;have pm:=Qu ep;obtain ⟨ad,ux,rfl,xb,yF⟩:=NB eJ;have al:=bY.length;have jl:=NY (bs.take i);rw [Kx] at jl;have nl:=N0 Gr.ay;rw [O9 bs i p ep];have qj:=fK hQ _ _ (Gr.ay _) yF;refine ⟨ad,_,Ja,hQ.aP xb,Ja,_,_,Ja,_,_,Ja,Ja,?_⟩
  -- the row ahead: none,or a last one
  have app:fb (jn (bs.take i)) p=jn (bs.take i)++[p]->tDrop (tBM K "list" rAppend (tVar 1) (tCons (tTup (tCons (tVar 2) (tCons (tVar 3) tNil))) tNil)) { nx:=fun σ H2=>SB [D] H H2/\∃ acc o2 o3,σ=[some (.ref a),some (.ref D),o2,o3]/\H2 D=some (.lst acc)/\Bears K H2 (Gr.aG) acc (fb (jn (bs.take i)) p),rt:=Q } [some (.ref a),some (.ref D),some ux,some (.int p.2)] H2:=by
   intro e;rw [e];refine ⟨_,Ja,.inl ⟨rfl,_,SqL.of aW⟩,_,Ja,_,Ja,(Z2),fun t ht=>?_⟩;have t3:=SB.new (ps:=[D]) ht (.tup [ux,.int p.2]);have bW:(upd H2 t (.tup [ux,.int p.2])) D=some (.lst acc):=by rw [upd_ne (ne_of_none aW ht)]; exact aW
   refine ⟨D,acc,_,Ja,Ja,bW,Fy (by omega),?_⟩;have t4:=SB.set (ps:=[D]) bW (by simp) (.lst (acc++[.ref t]));exact ⟨(s2.trans t3).trans t4,_,_,_,Ja,Qt,Bears.append ((bY.sb t3 nl).sb t4 nl) (.cons (C9 (t4.aP (SqT.of Qt)) (fK t4 _ _ (Gr.ay _) (fK t3 _ _ (Gr.ay _) qj))) .nil)⟩
  rcases List.eq_nil_or_concat (jn (bs.take i)) with he | ⟨js,z,he⟩
  ·rw [he] at bY app;cases bY;refine ⟨_,Ja,_,.inl ⟨[],SqL.of aW,Ja⟩,iteF (iteF ?_)⟩;rw [he];exact app rfl
  ·rw [List.concat_eq_append] at he;rw [he] at bY app;rw [he];obtain ⟨us,u,rfl,B6,hu⟩:=bY.snoc;obtain ⟨az,uz,rfl,oz,JR⟩:=NB hu;have OV:Wd (Gr.aC z.1):=by
    obtain ⟨q2,sW,eq2⟩:=BL (bs.take i) z (by rw [he]; simp);rw [<- eq2];exact Jo q2 (List.mem_of_mem_take sW)
   refine ⟨_,Ja,_,.inl ⟨us++[.ref az],SqL.of aW,Ja⟩,?_⟩;have e0:(!(us++[V.ref az]).isEmpty)=true:=by simp
   rw [e0];refine iteT ?_;refine ⟨_,Ja,1,Ja,D,_,_,_,Ja,Ja,SqL.of aW,BN,az,_,_,_,Ja,Ja,oz,atI_nat (j:=0) rfl,_,Ja,Gr.aC z.1,Gr.aC p.1,JR,qj,OV,Jo p pm,_,Ja,?_⟩;rw [Gr.vk];by_cases hz:z.1=p.1
   ·rw [show decide (z.1=p.1)=true by simp [hz]];refine iteT ?_;refine ⟨_,Ja,_,Ja,1,Ja,D,_,_,_,Ja,Ja,SqL.of aW,BN,az,_,_,_,Ja,Ja,oz,atI_nat (j:=1) rfl,_,Ja,_,_,Ja,Ja,(Z2),fun t ht=>?_⟩;have t3:=SB.new (ps:=[D]) ht (.tup [ux,.int (z.2+p.2)]);have bW:(upd H2 t (.tup [ux,.int (z.2+p.2)])) D=some (.lst (us++[.ref az])):=by rw [upd_ne (ne_of_none aW ht)]; exact aW
    refine ⟨_,Ja,1,Ja,D,_,_,us.length,Ja,Ja,bW,Wl,?_⟩;rw [WJ];have t4:=SB.set (ps:=[D]) bW (by simp) (.lst (us++[.ref t]));refine ⟨(s2.trans t3).trans t4,_,_,_,Ja,Qt,?_⟩;rw [pA,if_pos hz];exact Bears.append ((B6.sb t3 nl).sb t4 nl) (.cons (C9 (t4.aP (SqT.of Qt)) (fK t4 _ _ (Gr.ay _) (fK t3 _ _ (Gr.ay _) qj))) .nil)
   ·rw [show decide (z.1=p.1)=false by simp [hz]];refine iteF ?_;exact app (by rw [pA,if_neg hz])
 ·obtain ⟨s2,acc,o2,o3,rfl,aW,bY⟩:=h2;rw [xl,Yh] at bY;refine ⟨_,Ja,D,acc,Ja,.inl ⟨SqL.of aW,fun t ht=>?_⟩⟩;have t3:=Jb ht (.tup acc);exact q _ _ _ ((s2.drop hD).trans t3) (SqT.of Qt) (bY.sb t3 (N0 Gr.ay))
abbrev Wn:List Str:=[dQ,aq,ao,aX]
theorem pL:FnScope Wn [dQ,aq] (defScope Fu):=fS
theorem zid (B:BI mg) (F:Fun K ik ik Fu f fd):FnOk P w K mg base CX0 1 f fd [dQ,aq] (Pw K):=by
 refine F.ok pL (fun vs H Q E h=>?_) (fun _ A _ _ H vs Q E hr h=>?_)
 ·obtain ⟨v,u,l,e,rfl,_⟩:=h
  rfl
 obtain ⟨v,u,l,e,rfl,hv,hu,hd,hd2,hp,q⟩:=h;have bq:=bh hr;refine ⟨_,Qe (Qj (Qs (cr_sum rfl) rfl B.sum boot_sum (Qa
  (pe_lc (own:=[(ao,2),(aX,3)]) (g:=gTup K 2 (gCons (gName 2) (gCons (gName 3) gNil))) (tt:=tTest (tOp (rEqD K) (tVar 2) (tVar 1))) (te:=tVar 3) rfl pL.nd (pi_tup (pv 0))
   (blkOk_by (N:=Wn) (sc:=defScope Fu) (by decide +kernel))
   (fun _ _ _ _ _=>pg_tup rfl (Qi (pg_name (i:=2) pL.nd rfl (.inl rfl)) (Qi (pg_name (i:=3) pL.nd rfl (.inl rfl)) pgs_nil)))
   (fun _ _ _ _ _=>pts_one (pt_cmpR (op_eqD (Dm hr)) (pv 2) (pv 1) (nomark _)))
   (fun _ _ _ _ _=>pv 3)) Qb))),?_⟩
 obtain ⟨a,xs,rfl,hs,hb⟩:=n4 hv;have bl:=hb.length;have lp:=l.aN;rw [<- Lad.cE] at lp;refine ⟨_,Ja,a,Ja,⟨xs,hs⟩,fun D hD=>?_⟩;refine lc_it (walk_tup (xs:=xs)) (fun i H2=>SB [D] H H2/\H2 D=some (.lst ((((l.ps.take i).filter fun p=>decide (p.1=e)).map (·.2)).map V.int))) ⟨SB.new hD _,Qt⟩ (fun i H2 hi h2=>(h2.1.drop hD).aP hs) (fun i x H2 H' hi h2 y=>?_) (fun H2 h2=>?_)
 ·obtain ⟨s2,aW⟩:=h2;obtain ⟨rfl,ex⟩:=y;have hQ:=s2.drop hD;obtain ⟨b,eb,sk⟩:=hb.get ex;obtain ⟨ad,ux,rfl,fA,D9⟩:=sU sk;have bd:=l.aA b (Qu eb);refine ⟨ad,_,Ja,hQ.aP fA,Ja,_,_,Ja,_,_,Ja,Ja,Ja,?_⟩;refine ⟨_,Ja,_,Ja,b.1.enc,e.enc,D9.sb hQ,hu.sb hQ,Lad.bL (by omega),Lad.bL (by omega),_,Ja,?_⟩;rw [Lad.bw];have fl:=List.length_filter_le (fun p:Lad × Int=>decide (p.1=e)) (l.ps.take i);rw [Kx] at fl;by_cases he:b.1=e
  ·rw [show decide (b.1=e)=true by simp [he]];refine iteT ?_;refine ⟨_,Ja,_,aW,?_,?_⟩
   ·rw [Ye,Ye]; exact xE (by omega)
   ·refine ⟨s2.trans (SB.set aW (by simp) _),?_⟩;rw [Qt,Yg,eb,List.filter_append];simp [he]
  ·rw [show decide (b.1=e)=false by simp [he]];refine iteF ?_;refine ⟨s2,?_⟩;rw [aW,Yg,eb,List.filter_append];simp [he]
 ·obtain ⟨s2,aW⟩:=h2;rw [bl,Yh] at aW;exact ⟨D,_,Ja,SqL.of aW,q _ (s2.drop hD)⟩
theorem tL:FnScope ["text",wa,"signs","end"] ["text",wa,"signs"] (defScope Hy):=fS
theorem zig (B:BI mg) (F:Fun K m6 m6 Hy f fd):FnOk P w K mg base CX0 1 f fd ["text",wa,"signs"] (VX K):=by
 refine F.ok tL (fun vs H Q E h=>?_) (fun _ A _ _ H vs Q E hr h=>?_)
 ·obtain ⟨z,y,k,rfl,_⟩:=h
  rfl
 obtain ⟨z,y,k,rfl,hz,hk,q⟩:=h;refine ⟨_,Qc (ps_set (i:=3) tL.nd rfl (.inl rfl) (pv 1))
  (Qc (ps_while PassesOwn.never (PW.pt (pw_and (pt_cmpR op_lt (pv 3) (Qs call_len_str rfl B.len PySem.boot_len (Qa (pv 0) Qb)) (nomark _)) (pw_and1 (pt_cmpR op_in_sign (Qm ix_str (pv 0) (pv 3) (fun _ _=>rfl)) (pv 2) (by rfl)))))
   (Qe (ps_aug (i:=3) tL.nd rfl (.inl rfl) Qg ip_add)))
  (Qe (Qj (pe_slice sl_str (pv 0) (po_some (pv 1)) (po_some (pv 3)))))),?_⟩
 have B3:z.length<=sizeLine:=by have:=sizeLine_eq; omega
 have hl:=NC z;refine ⟨_,Ja,?_⟩;refine ⟨fun mm σ H2=>∃ e:Nat,mm=z.length-e/\H2=H/\σ=[some (.str z),some (.int (k:Int)),some (.str y),some (.int (e:Int))]/\k<=e/\e<=z.length/\(∀ j c,k<=j->j < e->z.cps.toList[j]?=some c->c ∈ y.cps.toList),⟨_,k,Ja,Ja,Ja,Yc _,hk,fun j c h1 h2 _=>by omega⟩,fun mm σ H2 h2=>?_⟩;obtain ⟨e,rfl,rfl,rfl,ke,el,Aa⟩:=h2;refine ⟨_,Ja,_,Ja,z,Ja,B3,_,_,Ja,Ja,_,Ja,?_⟩;have fin:(∀ c,z.cps.toList[e]?=some c->c ∉ y.cps.toList)->Q (.str (cutS z (some (k:Int)) (some (e:Int)))) H2:=fun ho=>q e ke el Aa ho;by_cases d4:e < z.length
 ·rw [show decide ((e:Int) < (z.length:Int))=true from Ya (by omega)];refine iteT ?_;obtain ⟨c,hc⟩:∃ c,z.cps.toList[e]?=some c:=⟨_,Kp (by omega)⟩;refine ⟨_,Ja,_,Ja,z,_,c,Ja,Ja,B3,NU hc,_,Ja,c,y,Ja,Ja,_,Ja,?_⟩;by_cases hm:c ∈ y.cps.toList
  ·rw [Ya hm];refine iteT ?_;refine ⟨_,fun σ' H' z=>z,?_⟩;refine ⟨_,Ja,_,_,Ja,Ja,z.length-(e+1),by omega,e+1,Ja,Ja,Ja,by omega,by omega,fun j c' h1 h2 h3=>?_⟩;rcases Nat.lt_or_ge j e with h | h
   ·exact Aa j c' h1 h h3
   ·have:j=e:=by omega
    subst this;rw [hc] at h3; cases h3; exact hm
  ·rw [Qz hm];refine iteF ?_;refine ⟨_,Ja,_,Ja,_,Ja,_,Ja,_,Ja,z,Ja,B3,fin fun c' h'=>?_⟩;rw [hc] at h'; cases h'; exact hm
 ·rw [show decide ((e:Int) < (z.length:Int))=false from Qz (by omega)];refine iteF (iteF ?_);refine ⟨_,Ja,_,Ja,_,Ja,_,Ja,_,Ja,z,Ja,B3,fin fun c' h'=>?_⟩;have:=(Kq h').1;omega
theorem zi4:FnScope [aq] [aq] (defScope HG):=fS
theorem zd6 {ps:List Str}:FnOk P w K mg base CX0 k f fd ps (IA K 0):=BM fun vs H Q E ⟨v,d,_,_,h,_⟩=>by omega
theorem zhj (B:BI mg) (GN:Got P w K mg base iq [aq] 2 (O4 K)) (G:Got P w K mg base dS [aq] (n+3) (FO K n)) (F:Fun K fW fW HG f fd) :
  FnOk P w K mg base CX0 (n+4) f fd [aq] (IA K (n+1)):=by
 refine F.ok zi4 (fun vs H Q E h=>?_) (fun _ A _ _ H vs Q E hr h=>?_)
 ·obtain ⟨v,l,rfl,_⟩:=h
  rfl
 obtain ⟨v,d,rfl,th,hd,h80,hw,q⟩:=h;refine ⟨_,Qe (Qj (pe_and (xC B (pv 0) B.tuple boot_tuple) (pe_and (pe_cmpR op_eq (Qs call_len_seq rfl B.len PySem.boot_len (Qa (pv 0) Qb)) Qg (nomark _))
  (pe_and (bc GN (Hm hr) rfl (Qa (Qm Ql (pv 0) Qg (fun _ _=>rfl)) Qb)) (pe_one (bc G hr rfl (Qa (Qm Ql (pv 0) Qg (fun _ _=>rfl)) Qb))))))),?_⟩
 obtain ⟨n1,b,ty,kb,y1,y2⟩:=th.ty;refine ⟨_,Ja,_,_,n1,b,Ja,ty,kb,b,Ja,?_⟩;cases b with
 | false =>
  refine iteF ?_;have e:lJ d=false:=by
   cases d with
   | tuple ds=>exact absurd rfl (y2 rfl ds)
   | _=>simp [lJ]
  have:=q H SB.refl;rw [e] at this;exact this
 | true =>
 refine iteT ?_;obtain ⟨a,xs,ds,rfl,rfl,hs,ha⟩:=y1 rfl;refine ⟨_,Ja,a,xs,Ja,.inr hs,Ja,_,Ja,?_⟩;have hl:=TgAll.length ha;refine ite2 (fun c=>?_) (fun c=>?_)
 ·have c':V.int (xs.length:Nat)=V.int 2:=Ks c
  injection c' with c'
  have c2:xs.length=2:=by omega
  cases ha with
  | nil=>simp at c2
  | cons t1 ta =>
   cases ta with
   | nil=>simp at c2
   | cons t2 ta =>
    cases ta with
    | cons t3 ta=>simp at c2
    | nil =>
     rename_i v1 d1 v2 d2;have q1:d2.depth < PyData.depth (.tuple [d1,d2]):=by simp only [PyData.depth,PyData.depthAll]; omega
     have q2:wide d2<=wide (.tuple [d1,d2]):=by simp only [wide,tj]; omega
     refine ⟨_,Ja,a,_,_,_,Ja,Ja,hs,atI_nat (j:=0) rfl,v1,d1,Ja,t1,fun H1 h1=>?_⟩;refine ⟨_,Ja,?_⟩;cases e1:wb d1 with
     | false =>
      refine iteF ?_;have:=q H1 h1;have e:lJ (.tuple [d1,d2])=false:=by simp [lJ,qY,e1]
      rw [e] at this;exact this
     | true =>
      refine iteT ?_;refine ⟨_,Ja,a,_,_,_,Ja,Ja,h1.aP hs,atI_nat (j:=1) rfl,v2,d2,Ja,zQ h1 t2,by omega,by omega,by omega,fun H2 h2=>?_⟩;have:=q H2 (h1.trans h2);have e:lJ (.tuple [d1,d2])=jC d2:=by simp [lJ,qY,tF,e1]
      rw [e] at this;exact this
 ·have c':¬ V.int (xs.length:Nat)=V.int 2:=of_decide_eq_false (Bool.eq_false_iff.mpr c);have c2:¬ xs.length=2:=fun z=>c' (by rw [z]; rfl);have e:lJ (.tuple ds)=false:=by
   cases e:lJ (.tuple ds) with
   | false=>rfl
   | true =>
    obtain ⟨t,e2⟩:=Wx _ e
    injection e2 with e2
    rw [e2] at hl;exact absurd hl c2
  have:=q H SB.refl;rw [e] at this;exact this
abbrev Va:List Str:=[aq,"pair"]
theorem tR:FnScope Va [aq] (defScope EX):=fS
theorem zd8 {ps:List Str}:FnOk P w K mg base CX0 k f fd ps (FO K 0):=BM fun vs H Q E ⟨v,d,_,_,h,_⟩=>by omega
theorem zbl (bs:List (Tr × Int)):(bs.map Gr.aG).map nY=bs.map fun p=>Gr.aC p.1:=by rw [List.map_map]; rfl
theorem Xt:∀ bs:List (Tr × Int),ki (bs.map fun p=>Gr.aC p.1)=true
 | []=>by simp [ki]
 | p::r=>by rw [Ky,ki,Xt r,Gr.ay]; rfl
theorem zic (B:BI mg) (GR:Got P w K mg base eZ [cF] 1 (Wr K)) (G:Got P w K mg base a8 [cF] (n+3) (Io K true n)) (F:Fun K dS dS EX f fd) :
  FnOk P w K mg base CX0 (n+4) f fd [aq] (FO K (n+1)):=by
 refine F.ok tR (fun vs H Q E h=>?_) (fun _ A _ _ H vs Q E hr h=>?_)
 ·obtain ⟨v,l,rfl,_⟩:=h
  rfl
 obtain ⟨v,d,rfl,th,hd,h80,hw,q⟩:=h;refine ⟨_,Qc (Qr (PW.pt (Kk (Qp (Qo (xC B (pv 0) B.tuple boot_tuple))) (pw_or1 (Qp (Qo (bc G hr rfl (Qa (pv 0) Qb))))))) (Qe (Qj pe_bl)) pss_nil)
  (Qe (Qj (bc GR (Hm hr) rfl (Qa (pe_lc (own:=[("pair",1)]) (g:=gName 1) (tt:=tYes) (te:=tOp (rIxT K) (tVar 1) (tC (.int 0))) rfl tR.nd
   (pi_tup (pv 0))
   (blkOk_by (N:=Va) (sc:=defScope EX) (by decide +kernel))
   (fun _ _ _ _ _=>pg_name (i:=1) tR.nd rfl (.inl rfl))
   (fun _ _ _ _ _=>pts_nil)
   (fun _ _ _ _ _=>Qm Ql (pv 1) Qg (fun _ _=>rfl))) Qb)))),?_⟩
 obtain ⟨n1,b,ty,kb,y1,y2⟩:=th.ty;refine ⟨_,Ja,_,_,n1,b,Ja,ty,kb,b,Ja,?_⟩;cases b with
 | false =>
  refine iteT (iteT ?_);have e:jC d=false:=by
   cases d with
   | tuple ds=>exact absurd rfl (y2 rfl ds)
   | _=>simp [jC]
  have:=q H SB.refl;rw [e] at this;exact this
 | true =>
 refine iteF ?_;obtain ⟨a,xs,ds,rfl,rfl,hs,ha⟩:=y1 rfl;have hl:=TgAll.length ha;have m3:PyData.depth (.tuple ds)=PyData.depthAll ds+1:=by simp [PyData.depth]
 refine ⟨_,Ja,a,xs,ds,Ja,by simpa using hs,ha,by omega,by omega,hw,fun H2 h2=>⟨_,Ja,?_⟩⟩;cases e1:jY ds with
 | false =>
  refine iteT ?_;have:=q H2 h2;rw [jC,e1] at this;exact this
 | true =>
  refine iteF ?_;obtain ⟨g,rfl⟩:=PF ds e1;have hV:GA K H (.ref a) g:=Dp.tup hs (C1 g ha);obtain ⟨a',FP,e',qO,hb⟩:=pz (hV.sb h2);cases e';have hlen:=hb.length;have gl:g.encs.length=g.ps.length:=by rw [Gr.dX,Ye]
  rw [Qq] at hw;refine ⟨_,Ja,a,Ja,⟨FP,qO⟩,fun D hD=>?_⟩;refine lc_it (walk_tup (xs:=FP)) (fun i H3=>SB [D] H2 H3/\∃ acc,H3 D=some (.lst acc)/\DpAll K H3 acc ((g.ps.take i).map fun p=>Gr.aC p.1)) ⟨SB.new hD _,[],Qt,.nil⟩ (fun i H3 hi h3=>(h3.1.drop hD).aP qO) (fun i x H3 H' hi h3 y=>?_) (fun H3 h3=>?_)
  ·obtain ⟨h3,acc,h4,h5⟩:=h3;obtain ⟨rfl,ex⟩:=y;obtain ⟨p,ep,eJ⟩:=hb.get ex;obtain ⟨ad,bd,ux,rfl,xb,i9,yF,JS⟩:=nj eJ;have h6:=h3.drop hD;have D8:=DpAll.length h5;refine ⟨rfl,?_⟩;refine ⟨_,Ja,ad,_,_,_,Ja,Ja,h6.aP xb,atI_nat (j:=0) rfl,acc,h4,?_,?_⟩
   ·rw [D8,Ye,Kx];exact xE (by omega)
   ·have h7:=SB.set (ps:=[D]) h4 (by simp) (.lst (acc++[.ref bd]));refine ⟨h3.trans h7,_,Qt,?_⟩;rw [Yg,ep,Yj];exact DpAll.append (PX h7 _ _ (Xt _) h5) (.cons (fK h7 _ _ (Gr.ay _) (fK h6 _ _ (Gr.ay _) JS)) .nil)
  ·obtain ⟨uI,acc,h4,h5⟩:=h3;rw [hlen,Yh] at h5;have h6:=uI.drop hD;have D8:=DpAll.length h5;refine ⟨D,acc,g.ps.map fun p=>Gr.aC p.1,Ja,SqL.of h4,h5,?_,?_,?_,fun H9 h9=>?_⟩
   ·intro d Ac;obtain ⟨p1,m1,rfl⟩:=Qx Ac;have hd2:(Gr.aG p1).depth<=PyData.depthAll g.encs:=PyData.depth_le_depthAll _ _ (by rw [Gr.dX]; exact List.mem_map_of_mem m1);have YS:(Gr.aC p1.1).depth < (Gr.aG p1).depth:=by
     show _ < (PyData.tuple [Gr.aC p1.1,.int p1.2]).depth;simp only [PyData.depth,PyData.depthAll]; omega
    exact ⟨Gr.ay _,(fun z:Gr.aC p1.1=.none=>by simp [Gr.aC] at z),by omega⟩
   ·intro d Ac d2 hd2;obtain ⟨p1,_,rfl⟩:=Qx Ac;obtain ⟨p2,_,rfl⟩:=Qx hd2;exact Orderly.al (enc:=Gr.aC) _ _
   ·rw [D8,Ye]; omega
   ·have:=q H9 ((h2.trans h6).trans h9);rw [jC,e1,Bool.true_and,Gr.dX,zbl] at this;exact this
abbrev z9x:List Str:=[cF,aq]
theorem pT:FnScope z9x [cF] (defScope E8):=fS
theorem zcs {ps:List Str} {tp:Bool}:FnOk P w K mg base CX0 k f fd ps (Io K tp 0):=BM fun vs H Q E ⟨a,xs,ds,_,_,_,h,_⟩=>by omega
theorem Iw:∀ ds:List PyData,jY ds=ds.all jA
 | []=>by rw [jY]; rfl
 | d::ds=>by rw [jY,Iw ds]; rfl
theorem zix (B:BI mg) (GM:Got P w K mg base fX [aq] 2 (Ny K [])) (G:Got P w K mg base fW [aq] (n+3) (IA K n)) (F:Fun K a8 a8 E8 f fd) :
  FnOk P w K mg base CX0 (n+4) f fd [cF] (Io K true (n+1)):=by
 refine F.ok pT (fun vs H Q E h=>?_) (fun _ A _ _ H vs Q E hr h=>?_)
 ·obtain ⟨a,xs,ds,rfl,_⟩:=h
  rfl
 obtain ⟨a,xs,ds,rfl,hs,ha,hd,h79,hw,q⟩:=h;refine ⟨_,Qc (ps_for PassesOwn.never rfl (pi_tup (pv 0)) (pg_name (i:=1) pT.nd rfl (.inl rfl))
   (Qc (Qr (PW.pt (Kk (Qp (Qo (xC B (pv 1) B.tuple boot_tuple))) (pw_or1 (pt_cmpR op_ne (Qs call_len_seq rfl B.len PySem.boot_len (Qa (pv 1) Qb)) Qg (nomark _))))) (Qe (Qj pe_bl)) pss_nil)
   (Qe (Qr (PW.pt (Kk (Qp (Qo (bc G hr rfl (Qa (Qm Ql (pv 1) Qg (fun _ _=>rfl)) Qb)))) (pw_or1 (Qp (Qo (bc GM (Hm hr) rfl (Qa (Qm Ql (pv 1) Qg (fun _ _=>rfl)) Qb))))))) (Qe (Qj pe_bl)) pss_nil))))
  (Qe (Qj pe_bl)),?_⟩
 have hs:SqT K H a xs:=by simpa using hs
 have hl:=TgAll.length ha;rw [Qq] at hw;refine ⟨_,Ja,a,Ja,⟨xs,hs⟩,?_⟩;refine for_tup (K:=K) (a:=a) (xs:=xs) (fun i σ H2=>SB [] H H2/\(∃ o,σ=[some (.ref a),o])/\(ds.take i).all jA=true) ⟨SB.refl,⟨none,Ja⟩,by simp⟩ (fun i σ H2 hi h2=>h2.1.aP hs) (fun i x σ H2 hx h2=>?_) (fun σ H2 h2=>?_)
 ·obtain ⟨h2,⟨o,rfl⟩,h3⟩:=h2;obtain ⟨dx,ex,tx⟩:=TgAll.get ha hx;have mx:=Qu ex;have m1:=Xw ex;have m2:=PV _ _ mx;have no:jA dx=false->∀ H',SB [] H2 H'->Q (.bl false) H':=fun e H' s'=>by
   have:=q H' (h2.trans s');have e2:jY ds=false:=by
    rw [Iw,List.all_eq_false];exact ⟨dx,mx,by rw [e]; exact Bool.false_ne_true⟩
   rw [e2] at this;exact this
  obtain ⟨n1,b,ty,kb,y1,y2⟩:=(zQ h2 tx).ty;refine ⟨_,Ja,_,_,n1,b,Ja,ty,kb,b,Ja,?_⟩;cases b with
  | false =>
   refine iteT (iteT (no ?_ _ SB.refl));cases dx with
   | tuple ds=>exact absurd rfl (y2 rfl ds)
   | _=>simp [jA]
  | true =>
  refine iteF ?_;obtain ⟨b1,ys,es,rfl,rfl,uB,sr⟩:=y1 rfl;refine ⟨_,Ja,b1,ys,Ja,.inr uB,Ja,_,Ja,?_⟩;have xG:=TgAll.length sr;by_cases c2:ys.length=2
  ·rw [show (!decide (V.int (ys.length:Nat)=V.int 2))=false by rw [c2]; rfl];refine iteF ?_;cases sr with
   | nil=>simp at c2
   | cons t1 ta =>
    cases ta with
    | nil=>simp at c2
    | cons t2 ta =>
     cases ta with
     | cons t3 ta=>simp at c2
     | nil =>
      rename_i v1 d1 v2 d2;have q1:d1.depth < PyData.depth (.tuple [d1,d2]):=by simp only [PyData.depth,PyData.depthAll]; omega
      have q2:wide d1<=wide (.tuple [d1,d2]):=by simp only [wide,tj]; omega
      refine ⟨_,Ja,b1,_,_,_,Ja,Ja,uB,atI_nat (j:=0) rfl,v1,d1,Ja,t1,by omega,by omega,by omega,fun H3 uI=>?_⟩;refine ⟨_,Ja,?_⟩;cases e1:lJ d1 with
      | false=>exact iteT (iteT (no (by simp [jA,nX,e1]) _ uI))
      | true =>
       refine iteF ?_;refine ⟨_,Ja,b1,_,_,_,Ja,Ja,uI.aP uB,atI_nat (j:=1) rfl,v2,zR d2,Ja,(zQ uI t2).th,_,Ja,?_⟩;rw [Xl];have e:jA (.tuple [d1,d2])=qJ d2:=by simp [jA,nX,sT,e1]
       cases e2:qJ d2 with
       | false=>exact iteT (no (by rw [e,e2]) _ uI)
       | true =>
        refine iteF ⟨h2.trans uI,⟨_,Ja⟩,?_⟩;rw [Yg,ex,List.all_append,h3];simp [e,e2]
  ·rw [show (!decide (V.int (ys.length:Nat)=V.int 2))=true by rw [Qz (fun z=>by injection z with z; omega)]; rfl];refine iteT (no ?_ _ SB.refl);cases e:jA (.tuple es) with
   | false=>rfl
   | true =>
    obtain ⟨t,i,e2,_⟩:=Pc _ e
    injection e2 with e2
    rw [e2] at xG;exact absurd xG c2
 ·obtain ⟨h2,⟨o,rfl⟩,h3⟩:=h2;rw [hl,Yh,<- Iw] at h3;have:=q H2 h2;rw [h3] at this;exact this
theorem z3i (B:BI mg) (GM:Got P w K mg base fX [aq] 2 (Ny K [])) (G:Got P w K mg base fW [aq] (n+3) (IA K n)) (F:Fun K a8 a8 E8 f fd) :
  FnOk P w K mg base CX0 (n+4) f fd [cF] (Io K false (n+1)):=by
 refine F.ok pT (fun vs H Q E h=>?_) (fun _ A _ _ H vs Q E hr h=>?_)
 ·obtain ⟨a,xs,ds,rfl,_⟩:=h
  rfl
 obtain ⟨a,xs,ds,rfl,hs,ha,hd,h79,hw,q⟩:=h;refine ⟨_,Qc (ps_for PassesOwn.never rfl (pi_list (pv 0)) (pg_name (i:=1) pT.nd rfl (.inl rfl))
   (Qc (Qr (PW.pt (Kk (Qp (Qo (xC B (pv 1) B.tuple boot_tuple))) (pw_or1 (pt_cmpR op_ne (Qs call_len_seq rfl B.len PySem.boot_len (Qa (pv 1) Qb)) Qg (nomark _))))) (Qe (Qj pe_bl)) pss_nil)
   (Qe (Qr (PW.pt (Kk (Qp (Qo (bc G hr rfl (Qa (Qm Ql (pv 1) Qg (fun _ _=>rfl)) Qb)))) (pw_or1 (Qp (Qo (bc GM (Hm hr) rfl (Qa (Qm Ql (pv 1) Qg (fun _ _=>rfl)) Qb))))))) (Qe (Qj pe_bl)) pss_nil))))
  (Qe (Qj pe_bl)),?_⟩
 have hs:SqL K H a xs:=by simpa using hs
 have hl:=TgAll.length ha;rw [Qq] at hw;refine ⟨_,Ja,a,Ja,⟨xs,hs⟩,?_⟩;refine for_list (K:=K) (a:=a) (xs:=xs) (fun i σ H2=>SB [] H H2/\(∃ o,σ=[some (.ref a),o])/\(ds.take i).all jA=true) ⟨SB.refl,⟨none,Ja⟩,by simp⟩ (fun i σ H2 hi h2=>h2.1.fu aL hs) (fun i x σ H2 hx h2=>?_) (fun σ H2 h2=>?_)
 ·obtain ⟨h2,⟨o,rfl⟩,h3⟩:=h2;obtain ⟨dx,ex,tx⟩:=TgAll.get ha hx;have mx:=Qu ex;have m1:=Xw ex;have m2:=PV _ _ mx;have no:jA dx=false->∀ H',SB [] H2 H'->Q (.bl false) H':=fun e H' s'=>by
   have:=q H' (h2.trans s');have e2:jY ds=false:=by
    rw [Iw,List.all_eq_false];exact ⟨dx,mx,by rw [e]; exact Bool.false_ne_true⟩
   rw [e2] at this;exact this
  obtain ⟨n1,b,ty,kb,y1,y2⟩:=(zQ h2 tx).ty;refine ⟨_,Ja,_,_,n1,b,Ja,ty,kb,b,Ja,?_⟩;cases b with
  | false =>
   refine iteT (iteT (no ?_ _ SB.refl));cases dx with
   | tuple ds=>exact absurd rfl (y2 rfl ds)
   | _=>simp [jA]
  | true =>
  refine iteF ?_;obtain ⟨b1,ys,es,rfl,rfl,uB,sr⟩:=y1 rfl;refine ⟨_,Ja,b1,ys,Ja,.inr uB,Ja,_,Ja,?_⟩;have xG:=TgAll.length sr;by_cases c2:ys.length=2
  ·rw [show (!decide (V.int (ys.length:Nat)=V.int 2))=false by rw [c2]; rfl];refine iteF ?_;cases sr with
   | nil=>simp at c2
   | cons t1 ta =>
    cases ta with
    | nil=>simp at c2
    | cons t2 ta =>
     cases ta with
     | cons t3 ta=>simp at c2
     | nil =>
      rename_i v1 d1 v2 d2;have q1:d1.depth < PyData.depth (.tuple [d1,d2]):=by simp only [PyData.depth,PyData.depthAll]; omega
      have q2:wide d1<=wide (.tuple [d1,d2]):=by simp only [wide,tj]; omega
      refine ⟨_,Ja,b1,_,_,_,Ja,Ja,uB,atI_nat (j:=0) rfl,v1,d1,Ja,t1,by omega,by omega,by omega,fun H3 uI=>?_⟩;refine ⟨_,Ja,?_⟩;cases e1:lJ d1 with
      | false=>exact iteT (iteT (no (by simp [jA,nX,e1]) _ uI))
      | true =>
       refine iteF ?_;refine ⟨_,Ja,b1,_,_,_,Ja,Ja,uI.aP uB,atI_nat (j:=1) rfl,v2,zR d2,Ja,(zQ uI t2).th,_,Ja,?_⟩;rw [Xl];have e:jA (.tuple [d1,d2])=qJ d2:=by simp [jA,nX,sT,e1]
       cases e2:qJ d2 with
       | false=>exact iteT (no (by rw [e,e2]) _ uI)
       | true =>
        refine iteF ⟨h2.trans uI,⟨_,Ja⟩,?_⟩;rw [Yg,ex,List.all_append,h3];simp [e,e2]
  ·rw [show (!decide (V.int (ys.length:Nat)=V.int 2))=true by rw [Qz (fun z=>by injection z with z; omega)]; rfl];refine iteT (no ?_ _ SB.refl);cases e:jA (.tuple es) with
   | false=>rfl
   | true =>
    obtain ⟨t,i,e2,_⟩:=Pc _ e
    injection e2 with e2
    rw [e2] at xG;exact absurd xG c2
 ·obtain ⟨h2,⟨o,rfl⟩,h3⟩:=h2;rw [hl,Yh,<- Iw] at h3;have:=q H2 h2;rw [h3] at this;exact this
abbrev zli:List Str:=[aY,ao]
theorem zft:FnScope zli [aY,ao] (defScope Hj):=fS
theorem zfj (B:BI mg) (Mz:Got P w K mg base gK [dQ] (1) (W5 K Gr.aC)) (F:Fun K fO fO Hj f fd):FnOk P w K mg base CX0 (2) f fd [aY,ao] (QD K):=by
 refine F.ok zft (fun vs H Q E h=>?_) (fun _ A _ _ H vs Q E hr h=>?_)
 ·obtain ⟨v,u,g,k,rfl,_⟩:=h
  rfl
 obtain ⟨v,u,g,k,rfl,hv,hu,⟨C,go,ko⟩,gd,kd,gp,kp,q⟩:=h;have bq:=bh hr;refine ⟨_,Qe (Qj (bc Mz (Hm hr) rfl (Qa (Qs (zax Gr.aG (tE hr)) rfl B.sorted (by decide +kernel) (Qa (pe_op Aj (pv 0) (pv 1)) Qb)) Qb))),?_⟩;obtain ⟨a,xs,rfl,mX,jU⟩:=pz hv;obtain ⟨b,ys,rfl,kU,jT⟩:=pz hu;have xl:=jU.length;have yl:=jT.length;have hok:∀ p ∈ g.ps++k.ps,fm p.1.1/\p.1.2.Ok C/\p.1.2.deep<=62:=fun p hp=>by
  rcases Qw hp with h | h
  ·have h1:=(Gr.aS.mp go).1 p h;have h2:=g.aA p h;exact ⟨h1.1,h1.2.1,by omega⟩
  ·have h1:=(Gr.aS.mp ko).1 p h;have h2:=k.aA p h;exact ⟨h1.1,h1.2.1,by omega⟩
 refine ⟨_,Ja,_,Ja,a,b,xs,ys,Ja,Ja,mX,kU,by have:=Fy (n:=xs.length+ys.length) (by omega); omega,fun c H1 s1 hc=>?_⟩;refine ⟨c,_,g.ps++k.ps,Ja,.inr hc,Bears.append (jU.sb s1 Gr.aj) (jT.sb s1 Gr.aj),Gr.jO _,Gr.eV _,by rw [Yf]; omega,fun p hp=>?_,fun p zs hp hz=>?_⟩
 ·have:=Gr.eH p;have:=(hok p hp).2.2;omega
 have s2:=Jb hp (.lst zs);refine ⟨p,zs,nq Gr.aG (g.ps++k.ps),Ja,SqL.of Qt,hz.sb s2 Gr.aj,?_,fun b hb=>?_,fun c2 ws H3 s3 mL gI=>?_⟩
 ·rw [(zS _).length_eq,Yf]; omega
 ·obtain ⟨h1,h2,h3⟩:=hok b ((zS _).mem_iff.mp hb);exact Gr.An h1 h2 (by omega)
 ·exact q _ _ ((s1.trans s2).trans s3) (Il mL gI)
abbrev zkr:List Str:=[aa,aZ,aX,"left",ao,"count"]
theorem pH:FnScope zkr [aa,aZ,aX] (defScope Hl):=fS
theorem zik (B:BI mg) (F:Fun K j5 j5 Hl f fd):FnOk P w K mg base CX0 (1) f fd [aa,aZ,aX] (W3 K):=by
 refine F.ok pH (fun vs H Q E h=>?_) (fun _ A _ s H vs Q E hr h=>?_)
 ·obtain ⟨v,u,g,t,m,rfl,_⟩:=h
  rfl
 obtain ⟨v,u,g,t,m,rfl,hv,hu,⟨C,go,to⟩,tn,gd,td,gl,q⟩:=h;have bq:=bh hr;refine ⟨_,Qc (ps_set (i:=3) pH.nd rfl (.inl rfl) (pe_lst Qb))
  (Qc (ps_for PassesOwn.never rfl (pi_tup (pv 0)) (pg_tup rfl (Qi (pg_name (i:=4) pH.nd rfl (.inl rfl)) (Qi (pg_name (i:=5) pH.nd rfl (.inl rfl)) pgs_nil)))
   (Qe (Qr (pt_cmpR (O5 (tE hr)) (pv 4) (pv 1) (nomark _)) (Qe (Kf (Kn Ki PySem.F.slot_list_append PySem.F.type_list_append mt_append (pv 3) (Qa (Ka (Qa (pv 4) (Qa (pv 5) Qb))) Qb)))) (Qe (Qr (pt_cmpR op_gt (pv 5) (pv 2) (nomark _)) (Qe (Kf (Kn Ki PySem.F.slot_list_append PySem.F.type_list_append mt_append (pv 3) (Qa (Ka (Qa (pv 4) (Qa (pe_op op_sub (pv 5) (pv 2)) Qb))) Qb)))) pss_nil)))))
  (Qe (Qj (pe_callTy call_tuple_of rfl B.tuple boot_tuple (Qa (pv 3) Qb))))),?_⟩
 have iV:=sizeLine_eq;obtain ⟨a,xs,rfl,hs,hb⟩:=pz hv;have xl:=hb.length;refine ⟨Z0,fun D nD=>?_⟩;have t1:=Jb nD (.lst []);have sA:=n6 t1;generalize upd H D _=H1 at t1 sA;refine ⟨_,Ja,a,Ja,⟨xs,t1.aP hs⟩,?_⟩;refine for_it (walk_tup (xs:=xs)) (fun i σ H2=>∃ (us:List V) (o4 o5:Option V),σ=[some (.ref a),some u,some (.int m),some (.ref D),o4,o5]/\SB [D] H1 H2/\H2 D=some (.lst us)/\Bears K H2 Gr.aG us (Gr.woL t m (g.ps.take i))/\us.length<=i)
  ⟨[],none,none,rfl,SB.refl,sA,.nil,Yc _⟩ (fun i σ H2 hi h2=>by obtain ⟨_,_,_,_,s,_⟩:=h2; exact s.aP (t1.aP hs)) (fun i x σ H2 H' hi h2 y=>?_) (fun σ H2 h2=>?_)
 ·obtain ⟨us,o4,o5,rfl,s2,aW,bY,ul⟩:=h2;obtain ⟨rfl,ey⟩:=y;obtain ⟨p,ep,eJ⟩:=hb.get ey;have pm:=Qu ep;obtain ⟨n1,o1,_,_⟩:=Gr.bE go pm;have pd:=g.aA p pm;have iX:SB [] H H':=((t1.nil (ps:=[D])).trans s2).drop nD;obtain ⟨ad,bd,ux,rfl,h1,h2,h3,h4⟩:=nj eJ;have Ze:=fK iX _ _ (Gr.ay _) h4;have i9:Gr.woL t m (g.ps.take (i+1))=Gr.woL t m (g.ps.take i)++Gr.woL t m [p]:=by rw [Yg,ep,Gr.lK]; rfl
  refine ⟨ad,_,Ja,iX.aP h1,Ja,_,_,Ja,_,_,Ja,Ja,?_⟩;refine ⟨_,Ja,_,Ja,Gr.aC p.1,Gr.aC t,Ze,fK iX _ _ (Gr.ay _) hu,Gr.An n1 o1 (by omega),Gr.An tn to td,_,Ja,?_⟩;rw [Gr.vk]
  -- what is put behind
  have app:∀ c:Int,Gr.woL t m [p]=[(p.1,c)]->∀ (T:Addr),H' T=none->∃ tD o4' o5',[some (V.ref a),some u,some (.int m),some (.ref D),some (.ref bd),some (.int p.2)]=[some (.ref a),some u,some (.int m),some (.ref D),o4',o5']/\SB [D] H1 (upd (upd H' T (.tup [.ref bd,.int c])) D (.lst (us++[.ref T])))/\upd (upd H' T (.tup [.ref bd,.int c])) D (.lst (us++[.ref T])) D=some (.lst tD)/\Bears K (upd (upd H' T (.tup [.ref bd,.int c])) D (.lst (us++[.ref T]))) Gr.aG tD (Gr.woL t m (g.ps.take (i+1)))/\tD.length<=i+1:=fun c e T nT=>by
   have t3:=SB.new (ps:=[D]) nT (.tup [.ref bd,.int c]);have bW:upd H' T (.tup [.ref bd,.int c]) D=some (.lst us):=by rw [upd_ne (ne_of_none aW nT)]; exact aW
   have t4:=SB.set (ps:=[D]) bW (by simp) (.lst (us++[.ref T]));refine ⟨us++[.ref T],_,_,Ja,(s2.trans t3).trans t4,Qt,?_,by rw [Yf]; show us.length+1<=_; omega⟩;rw [i9,e];exact ((bY.sb t3 Gr.aj).sb t4 Gr.aj).append (.cons (C9 (t4.aP (SqT.of Qt)) (fK (t3.trans t4) _ _ (Gr.ay _) Ze)) .nil)
  by_cases hz:p.1=t
  ·rw [show (!decide (p.1=t))=false by simp [hz]];refine iteF ⟨_,Ja,_,Ja,_,_,Ja,Ja,_,Ja,?_⟩;by_cases hm:m < p.2
   ·rw [Ya hm];refine iteT ⟨_,Ja,.inl ⟨rfl,_,SqL.of aW⟩,_,Ja,_,Ja,_,Ja,_,_,Ja,Ja,Z2,fun T nT=>?_⟩;have bW:upd H' T (.tup [.ref bd,.int (p.2-m)]) D=some (.lst us):=by rw [upd_ne (ne_of_none aW nT)]; exact aW
    exact ⟨D,_,_,Ja,Ja,bW,by omega,app (p.2-m) (by rw [Gr.woL,if_neg (by simpa using hz),if_pos hm]; rfl) T nT⟩
   ·rw [Qz hm];refine iteF ⟨us,_,_,Ja,s2,aW,?_,by omega⟩;rw [i9,show Gr.woL t m [p]=[] by rw [Gr.woL,if_neg (by simpa using hz),if_neg hm]; rfl,List.append_nil];exact bY
  ·rw [show (!decide (p.1=t))=true by simp [hz]];refine iteT ⟨_,Ja,.inl ⟨rfl,_,SqL.of aW⟩,_,Ja,_,Ja,Z2,fun T nT=>?_⟩;have bW:upd H' T (.tup [.ref bd,.int p.2]) D=some (.lst us):=by rw [upd_ne (ne_of_none aW nT)]; exact aW
   exact ⟨D,_,_,Ja,Ja,bW,by omega,app p.2 (by rw [Gr.woL,if_pos hz]; rfl) T nT⟩
 ·obtain ⟨us,o4,o5,rfl,s2,aW,bY,ul⟩:=h2;rw [xl,Yh] at bY;refine ⟨_,Ja,D,us,Ja,.inl ⟨SqL.of aW,fun T nT=>?_⟩⟩;have t3:=Jb nT (.tup us);have iX:SB [] H H2:=((t1.nil (ps:=[D])).trans s2).drop nD;exact q _ _ (iX.trans t3) (Il (SqT.of Qt) (bY.sb t3 Gr.aj))
abbrev Vj:List Str:=[aa,aX,aZ,"count"]
theorem pI:FnScope Vj [aa,aX] (defScope Fc):=fS
theorem zg8 (B:BI mg) (F:Fun K uW uW Fc f fd):FnOk P w K mg base CX0 (1) f fd [aa,aX] (VP K):=by
 refine F.ok pI (fun vs H Q E h=>?_) (fun _ A _ _ H vs Q E hr h=>?_)
 ·obtain ⟨v,g,m,rfl,_⟩:=h
  rfl
 obtain ⟨v,g,m,rfl,hv,gl,hp,m0,mb,q⟩:=h;have bq:=bh hr;refine ⟨_,Qc (Qr (pt_cmpR op_eq (pv 1) Qg (nomark _)) (Qe (Qj (Ka Qb))) pss_nil)
  (Qe (Qj (pe_callTy call_tuple_of rfl B.tuple boot_tuple (Qa (pe_lc (own:=[(aZ,2),("count",3)]) (g:=(gTup K 2 (gCons (gName 2) (gCons (gName 3) gNil)))) (tt:=tYes) (te:=(tTup (tCons (tVar 2) (tCons (tOp (rI CMulW fun i j=>.int (i*j)) (tVar 3) (tVar 1)) tNil)))) rfl pI.nd (pi_tup (pv 0)) (blkOk_by (N:=Vj) (sc:=defScope Fc) (by decide +kernel)) (fun _ _ _ _ _=>(pg_tup rfl (Qi (pg_name (i:=2) pI.nd rfl (.inl rfl)) (Qi (pg_name (i:=3) pI.nd rfl (.inl rfl)) pgs_nil)))) (fun _ _ _ _ _=>pts_nil) (fun _ _ _ _ _=>(Ka (Qa (pv 2) (Qa (pe_op op_mulW (pv 3) (pv 1)) Qb))))) Qb)))),?_⟩
 have iV:=sizeLine_eq;obtain ⟨a,xs,rfl,hs,hb⟩:=pz hv;have xl:=hb.length;refine ⟨_,Ja,Ja,_,Ja,?_⟩;by_cases z:m=0
 ·subst z;refine iteT ⟨Z0,fun T nT=>?_⟩;exact q _ _ (Jb nT _) (HR (SqT.of Qt))
 rw [show decide (V.int m=V.int 0)=false by simp [z]];refine iteF ⟨_,Ja,a,Ja,⟨xs,hs⟩,fun D nD=>?_⟩;refine Nz (walk_tup (xs:=xs)) [] nD (by simp) (by omega) (fun i us H2=>Bears K H2 Gr.aG us (Gr.lO m (g.ps.take i))) .nil (fun H2 s2=>s2.aP hs) (fun i us H2 H3 s3 h=>h.sb s3 Gr.aj) (fun Pv i x Hq H2 us hi s2 y hR hu aW fin _=>?_) (fun us H2 s2 aW hR A3=>?_)
 ·obtain ⟨rfl,ey⟩:=y;obtain ⟨p,ep,eJ⟩:=hb.get ey;obtain ⟨p0,p1⟩:=hp p (Qu ep);obtain ⟨ad,bd,ux,rfl,h1,h2,h3,h4⟩:=nj eJ;refine ⟨ad,_,Ja,s2.aP h1,Ja,_,_,Ja,_,_,Ja,Ja,Ja,?_⟩;refine ⟨_,Ja,_,Ja,_,Ja,_,_,Ja,Ja,?_,Z2,fun T nT=>?_⟩
  ·have e1:=Vy (x:=p.2) (a:=2000) (b:=2000) (Gr.oo p0 p1) (Yc _) (by decide);have e2:=Vy (x:=m) (a:=2000) (b:=2000) (Gr.oo m0 mb) (Yc _) (by decide);unfold CMulW;omega
  have t3:=Jb nT (.tup [.ref bd,.int (p.2*m)]);refine fin _ _ t3 ?_;have i9:Gr.lO m (g.ps.take (i+1))=Gr.lO m (g.ps.take i)++[(p.1,p.2*m)]:=by rw [Yg,ep,Gr.lO,Gr.lO,Yj]; rfl
  rw [i9];exact (hR.sb t3 Gr.aj).append (.cons (C9 (SqT.of Qt) (fK (s2.trans t3) _ _ (Gr.ay _) h4)) .nil)
 ·rw [xl,Yh] at hR;refine ⟨D,us,Ja,.inl ⟨SqL.of aW,fun T nT=>?_⟩⟩;have t3:=Jb nT (.tup us);refine q _ _ (s2.trans t3) ?_;rw [Gr.gS,if_neg z];exact Il (SqT.of Qt) (hR.sb t3 Gr.aj)
theorem tN:FnScope [aa,"found","pair"] [aa] (defScope Hg):=fS
theorem zhb (G:Got P w K mg base bf [aa] n (BO K n)) (F:Fun K bf bf Hg f fd):FnOk P w K mg base CX0 (n+1) f fd [aa] (BO K (n+1)):=by
 refine F.ok tN (fun vs H Q E h=>?_) (fun _ A _ _ H vs Q E hr h=>?_)
 ·obtain ⟨v,g,rfl,_⟩:=h
  rfl
 obtain ⟨v,g,rfl,hg,hd,hp,q⟩:=h;refine ⟨_,Qc (ps_set (i:=1) tN.nd rfl (.inl rfl) (pe_lst Qb))
  (Qc (ps_for PassesOwn.never rfl (pi_tup (pv 0)) (pg_name (i:=2) tN.nd rfl (.inl rfl))
   (Qc (Kf (Kn Ki PySem.F.slot_list_append PySem.F.type_list_append mt_append (pv 1) (Qa (pv 2) Qb)))
   (Qe (Kf (Kn Ki PySem.F.slot_list_extend PySem.F.type_list_extend mt_extend (pv 1) (Qa (bc G hr rfl (Qa (Qm Ql (Qm Ql (pv 2) Qg (fun _ _=>rfl)) Qg (fun _ _=>rfl)) Qb)) Qb))))))
  (Qe (Qj (pv 1)))),?_⟩
 obtain ⟨a,xs,rfl,hs,hb⟩:=pz hg;have bl:=hb.length;have wl:=g.bG;refine ⟨(Z0),fun D hD=>?_⟩;refine ⟨_,Ja,a,Ja,⟨xs,(Jb hD _).aP hs⟩,?_⟩;refine for_it (walk_tup (xs:=xs)) (fun i σ H2=>SB [D] H H2/\∃ us o2,σ=[some (.ref a),some (.ref D),o2]/\H2 D=some (.lst us)/\Bears K H2 Gr.aG us ((g.ps.take i).flatMap fun p=>p::p.1.2.within)) ⟨SB.new hD _,[],none,Ja,Qt,.nil⟩ (fun i σ H2 hi h2=>(h2.1.drop hD).aP hs) (fun i x σ H2 H' hi h2 y=>?_) (fun σ H2 h2=>?_)
 ·obtain ⟨s2,us,o2,rfl,aW,bY⟩:=h2;obtain ⟨rfl,ex⟩:=y;obtain ⟨p,ep,eJ⟩:=hb.get ex;have pm:=Qu ep;obtain ⟨ad,td,ux,rfl,fA,lC,hV,_⟩:=nj eJ;have hQ:=s2.drop hD;have ul:=bY.length;have iD:(g.ps.take (i+1)).flatMap (fun p=>p::p.1.2.within)=(g.ps.take i).flatMap (fun p=>p::p.1.2.within)++(p::p.1.2.within):=by rw [Yg,ep]; simp
  have hle:((g.ps.take i).flatMap (fun p=>p::p.1.2.within)).length+(p.1.2.within.length+1)<=200000:=by
   have h1:g.within=(g.ps.take (i+1)).flatMap (fun p=>p::p.1.2.within)++(g.ps.drop (i+1)).flatMap (fun p=>p::p.1.2.within):=by rw [Gr.eE,<- List.flatMap_append,List.take_append_drop]
   have h2:=congrArg List.length h1;rw [iD,Yf,Yf,Yk,wl] at h2;omega
  refine ⟨_,Ja,.inl ⟨rfl,_,SqL.of aW⟩,_,Ja,D,us,_,Ja,Ja,aW,Fy (by omega),?_⟩;have t3:=SB.set (ps:=[D]) aW (by simp) (.lst (us++[.ref ad]));have bW:(upd H' D (.lst (us++[.ref ad]))) D=some (.lst (us++[.ref ad])):=Qt;have gI:=Bears.append (bY.sb t3 Gr.aj) (.cons (fK (s2.trans t3) _ _ (Gr.aj _) eJ) .nil);have s3:=s2.trans t3;have Ay:=s3.drop hD;generalize hH3:upd H' D (.lst (us++[.ref ad]))=H3 at t3 bW gI s3 Ay;have pd:=g.aA p pm;have pp:=g.bA p pm;refine ⟨_,Ja,.inl ⟨rfl,_,SqL.of bW⟩,_,Ja,ad,_,_,_,Ja,Ja,Ay.aP fA,atI_nat (j:=0) rfl,td,_,_,_,Ja,Ja,Ay.aP lC,atI_nat (j:=1) rfl,ux,p.1.2,Ja,hV.sb Ay,by omega,by omega,fun D2 N1 H4 s4 hDn jt yL=>?_⟩;have KD:=s4.keep _ _ bW aL;have vl:=yL.length;refine ⟨D,D2,_,_,Ja,Ja,KD,jt,?_,?_⟩
  ·rw [Yf,Yi];have:1000000<=sizeLine:=by decide
   omega
  have t5:=SB.set (ps:=[D]) KD (by simp) (.lst (us++[.ref ad]++N1));refine ⟨(s3.trans s4.nil).trans t5,_,_,Ja,Qt,?_⟩;rw [iD,show ((g.ps.take i).flatMap (fun p=>p::p.1.2.within)++(p::p.1.2.within))=(g.ps.take i).flatMap (fun p=>p::p.1.2.within)++[p]++p.1.2.within by simp];exact Bears.append ((gI.sb s4 Gr.aj).sb t5 Gr.aj) (yL.sb t5 Gr.aj)
 ·obtain ⟨s2,us,o2,rfl,aW,bY⟩:=h2;rw [bl,Yh,<- Gr.eE] at bY;exact ⟨_,Ja,q D us H2 (s2.drop hD) hD aW bY⟩
abbrev U3:List Str:=[aa,aZ,aX]
theorem pN:FnScope U3 [aa] (defScope Ff):=fS
theorem zgd (B:BI mg) (mS:Got P w K mg base bf [aa] (70) (BO K 70)) (F:Fun K cG cG Ff f fd):FnOk P w K mg base CX0 (71) f fd [aa] (PD K):=by
 refine F.ok pN (fun vs H Q E h=>?_) (fun _ A _ _ H vs Q E hr h=>?_)
 ·obtain ⟨v,g,ns,rfl,_⟩:=h
  rfl
 obtain ⟨v,g,ns,rfl,hv,hd,hp,hk,hn,q⟩:=h;have bq:=bh hr;refine ⟨_,Qe (Qj (Qs (Xo rfl) rfl B.sorted (by decide +kernel) (Qa (Vu (own:=[(aZ,1),(aX,2)]) (g:=(gTup K 2 (gCons (gName 1) (gCons (gName 2) gNil)))) (tt:=tYes) (te:=(tOp (rIxT K) (tVar 1) (tC (.int 0)))) rfl pN.nd (pi_list (bc mS (Hm hr) rfl (Qa (pv 0) Qb))) (blkOk_by (N:=U3) (sc:=defScope Ff) (by decide +kernel)) (fun _ _ _ _ _=>(pg_tup rfl (Qi (pg_name (i:=1) pN.nd rfl (.inl rfl)) (Qi (pg_name (i:=2) pN.nd rfl (.inl rfl)) pgs_nil)))) (fun _ _ _ _ _=>pts_nil) (fun _ _ _ _ _=>(Qm Ql (pv 1) Qg (fun _ _=>rfl)))) Qb))),?_⟩;have scb:3001 < scanBound:=by decide +kernel
 have wl:=g.bG;refine ⟨_,Ja,v,g,Ja,hv,by omega,by omega,fun ll us H1 s1 AJ sj kg=>?_⟩;have ul:=kg.length;refine ⟨ll,Ja,⟨_,SqL.of sj⟩,fun D nD=>?_⟩;refine VA (walk_list (xs:=us)) nD (by omega) (fun i ss H2=>ss.Nodup/\∀ x,x ∈ ss ↔ x ∈ (g.within.take i).map fun p:Tr × Int=>p.1.1) ⟨List.nodup_nil,by simp⟩ (fun H2 s2=>s2.fu aL (SqL.of sj)) (fun _ _ _ _ _ h=>h) (fun Pv i x Hq H2 ss hi s2 y hR hl fin _=>?_) (fun ss H2 s2 aW hR hl=>?_)
 ·obtain ⟨rfl,ey⟩:=y;obtain ⟨p,ep,eJ⟩:=kg.get ey;obtain ⟨ad,td,ux,rfl,fA,lC,hV,_⟩:=nj eJ;refine ⟨ad,_,Ja,s2.aP fA,Ja,_,_,Ja,_,_,Ja,Ja,Ja,?_⟩;refine ⟨_,Ja,td,_,_,_,Ja,Ja,s2.aP lC,atI_nat (j:=0) rfl,fin p.1.1 _ SB.refl ⟨Xk hR.1,fun x=>?_⟩⟩;rw [Ww,hR.2,Yg,ep,Yj,List.mem_append];simp [or_comm]
 ·rw [ul,Yh] at hR;have sl:ss.length<=60:=by
   have:=hR.1.length_le_of_subset (l₂:=ns) fun x hx=>by
    obtain ⟨p,hp,e⟩:=Qx ((hR.2 x).mp hx);rw [<- e]; exact hk p hp
   omega
  refine ⟨D,ss,Ja,aW,by omega,fun Aw p pm srt np=>?_⟩;have t3:=Jb np (.lst (Aw.map V.str));exact q p Aw _ ((s1.trans s2).trans t3) ((s1.trans s2).kh _ np) Qt (.perm pm srt hR.1 hR.2) (by rw [pm.length_eq]; omega)
theorem zi7:FnScope [aa] [aa] (defScope GF):=fS
theorem zgt (B:BI mg) (G:Got P w K mg base bf [aa] n (BO K n)) (F:Fun K ig ig GF f fd):FnOk P w K mg base CX0 (n+1) f fd [aa] (Xa K n):=by
 refine F.ok zi7 (fun vs H Q E h=>?_) (fun _ A _ _ H vs Q E hr h=>?_)
 ·obtain ⟨v,g,rfl,_⟩:=h
  rfl
 obtain ⟨v,g,rfl,hg,hd,hp,q⟩:=h;refine ⟨_,Qe (Qj (Qs call_len_seq rfl B.len PySem.boot_len (Qa (bc G hr rfl (Qa (pv 0) Qb)) Qb))),?_⟩;refine ⟨_,Ja,v,g,Ja,hg,hd,hp,fun D us H2 s2 _ hD hb=>?_⟩;refine ⟨D,us,Ja,.inl (SqL.of hD),?_⟩;rw [hb.length,g.bG];exact q _ s2
abbrev Wk:List Str:=[aa,aZ,aX]
theorem pS:FnScope Wk [aa] (defScope Fm):=fS
theorem zhc (B:BI mg) (G:Got P w K mg base fY [aa] n (FG K n)) (F:Fun K fY fY Fm f fd):FnOk P w K mg base CX0 (n+1) f fd [aa] (FG K (n+1)):=by
 refine F.ok pS (fun vs H Q E h=>?_) (fun _ A _ _ H vs Q E hr h=>?_)
 ·obtain ⟨v,g,rfl,_⟩:=h
  rfl
 obtain ⟨v,g,rfl,hg,hd,hp,q⟩:=h;refine ⟨_,Qc (Qr (Qp (pt_truth (pv 0) (by intro _; rfl))) (Qe (Qj Qg)) pss_nil) (Qe (Qj (pe_op Ko Qg (Qs (cr_max rfl) rfl B.max boot_max (Qa
  (pe_lc (own:=[(aZ,1),(aX,2)]) (g:=zj5 K) (tt:=tYes) (te:=(tCall (FG K n) [] E0 (tCons (tOp (rIxT K) (tVar 1) (tC (.int 1))) tNil))) rfl pS.nd
   (pi_tup (pv 0))
   (blkOk_by (N:=Wk) (sc:=defScope Fm) (by decide +kernel))
   (fun _ _ _ _ _=>pg_tup rfl (Qi (pg_name (i:=1) pS.nd rfl (.inl rfl)) (Qi (pg_name (i:=2) pS.nd rfl (.inl rfl)) pgs_nil)))
   (fun _ _ _ _ _=>pts_nil)
   (fun _ _ _ _ _=>(bc G hr rfl (Qa (Qm Ql (pv 1) Qg (fun _ _=>rfl)) Qb)))) Qb))))),?_⟩
 obtain ⟨a,xs,rfl,hs,hb⟩:=pz hg;have bl:=hb.length;refine ⟨_,Ja,_,.inr (.inl ⟨xs,hs,Ja⟩),?_⟩;cases ex:xs with
 | nil =>
  refine iteT ?_;have e0:g.deep=0:=by
   cases g with
   | nil=>rfl
   | cons k g m r=>rw [ex] at bl; simp [Gr.ps] at bl
  have:=q H SB.refl;rw [e0] at this;exact this
 | cons x0 xr =>
 refine iteF ?_;refine ⟨_,Ja,a,Ja,⟨xs,hs⟩,fun D hD=>?_⟩;have hz:=g.aN;refine lc_it (walk_tup (xs:=xs)) (fun i H2=>SB [D] H H2/\H2 D=some (.lst (((g.ps.take i).map fun p=>(p.1.2.deep:Int)).map V.int))) ⟨SB.new hD _,Qt⟩ (fun i H2 hi h2=>(h2.1.drop hD).aP hs) (fun i x H2 H' hi h2 y=>?_) (fun H2 h2=>?_)
 ·obtain ⟨h2,h3⟩:=h2;obtain ⟨rfl,ex⟩:=y;obtain ⟨p,ep,eJ⟩:=hb.get ex;have pm:=Qu ep;obtain ⟨ad,td,ux,rfl,fA,lC,hV,_⟩:=nj eJ;have h4:=h2.drop hD;have m1:=g.aA p pm;have m2:=g.bA p pm;refine ⟨ad,_,Ja,h4.aP fA,Ja,_,_,Ja,_,_,Ja,Ja,Ja,?_⟩;refine ⟨_,Ja,td,_,_,_,Ja,Ja,h4.aP lC,atI_nat (j:=1) rfl,ux,p.1.2,Ja,hV.sb h4,by omega,by omega,fun H5 h5=>?_⟩;have h6:=h5.keep _ _ h3 aL;refine ⟨_,h6,?_,?_⟩
  ·rw [Ye,Ye,Kx];exact Fy (by omega)
  ·refine ⟨(h2.trans h5.nil).trans (SB.set h6 (by simp) _),?_⟩;rw [Qt,Yg,ep];simp
 ·obtain ⟨h2,h3⟩:=h2;rw [bl,Yh] at h3;refine ⟨D,_,Ja,SqL.of h3,?_,fun m hm hy=>?_⟩
  ·rw [Ye,<- bl,ex]; simp
  refine ⟨_,_,Ja,Ja,?_⟩;show Q (.int (1+m)) H2;rw [Gr.y9 g m hm hy];exact q _ (h2.drop hD)
abbrev zjd:List Str:=[af,aI]
theorem zh3:FnScope zjd [af,aI] (defScope HE):=fS
theorem zhh {eX ae ai:Addr} (B:BI mg) (iI:mg "NO_GROVES"=some (.ref eX)) (iH:∀ H,Dp K H (.ref eX) (Ru.enc (.nil,.nil))) (EU:z1w P w K mg base ae "rules" [aw,aI] (4) (NI K ae ai)) (F:Fun K a5 a5 HE f fd):FnOk P w K mg base (L2.CX P w) (5) f fd [af,aI] (NO K ae ai):=by
 refine F.okX zh3 (fun vs H Q E h=>?_) (fun _ A _ _ H vs Q E hr h=>?_)
 ·obtain ⟨v,b,n,rfl,_⟩:=h
  rfl
 obtain ⟨v,b,n,rfl,hb,hl,RJ,qk,qE⟩:=h;have bq:=bh hr;refine ⟨_,Qe (Qj (pe_op op_cat (pe_lst (Qa (pe_glob (v:=.ref eX) rfl iI rfl) Qb)) (Pz EU (Hm hr) (takes_of rfl rfl rfl rfl) (pv 0) (Qa (pv 1) Qb)))),?_⟩;have iV:=sizeLine_eq;obtain ⟨va,wm,FU,FR,rfl,xa⟩:=hb.at;refine ⟨Z1,fun L hL=>?_⟩;have t1:=Jb hL (.lst [.ref eX]);have OG:=n6 t1;generalize upd H L _=H1 at t1 OG;refine ⟨_,Ja,va,wm,_,Ja,t1.keep _ _ xa aL,Ja,_,Ja,_,b,n,Ja,hb.dI t1,hl,RJ,fun k eg ll us H2 s2 AJ sj kg=>?_,fun z d H' s' nd hd=>qE z d H' (t1.trans s') (t1.kh d nd) hd⟩;have k4:=RJ k (Bk.get_some eg).1;have ul:=kg.length;refine ⟨L,ll,_,_,Ja,Ja,s2.keep _ _ OG aL,sj,by show 1+_<=sizeLine; omega,fun M hM=>?_⟩;have t3:=Jb hM (.lst ([.ref eX]++us));have s3:=t1.trans s2;exact qk k eg M _ _ (s3.trans t3) (s3.kh _ hM) Qt (.cons (iH _) (kg.sb t3 Ru.ag))
abbrev zjr:List Str:=[af,aI]
theorem zij:FnScope zjr [af,aI] (defScope GD):=fS
theorem zgj {ai ae:Addr} (B:BI mg) (mQ:OwnI P w K mg base "NoKind" ai 1) (zO:GotM P w K mg base ae eU [aw] (1) (Iv K ae)) (F:Fun K cW cW GD f fd):FnOk P w K mg base (L2.CX P w) (3) f fd [af,aI] (NQ K ae ai):=by
 refine F.okX zij (fun vs H Q E h=>?_) (fun _ A _ _ H vs Q E hr h=>?_)
 ·obtain ⟨v,b,n,rfl,_⟩:=h
  rfl
 obtain ⟨v,b,n,rfl,hb,hl,qk,qE⟩:=h;refine ⟨_,Qe (Qr (pt_cmpR op_notIn_seq (pv 1) (Am zO (Hm hr) (pv 0)) (by rfl)) (Qe (ps_raise rfl (takes_of rfl rfl rfl rfl) (We mQ (Hm hr) rfl (pv 1)))) pss_nil),?_⟩;obtain ⟨a,dx,d1,d2,rfl,h1⟩:=hb.at;refine ⟨_,Ja,_,Ja,a,dx,_,Ja,h1,Ja,?_⟩;refine ⟨_,b,Ja,hb,hl,fun l H1 s1 hn xG=>?_⟩;refine ⟨l,_,Ja,.inl (SqL.of xG),Ja,FN _,_,Ja,?_⟩;rw [FL,Bk.uL];cases e:b.get n with
 | some k=>exact qk k e H1 s1
 | none=>exact ⟨_,Ja,fun d hd=>qE e d _ (s1.trans (SB.new hd _)) (s1.kh d hd) Qt⟩
abbrev zl3:List Str:=[af,aa,"kind"]
theorem x5:FnScope zl3 [af,aa] (defScope Gz):=fS
theorem zha {ae ai:Addr} (B:BI mg) (zG:Got P w K mg base cG [aa] (71) (PD K)) (sR:GotX P w K mg base cW [af,aI] (3) (NQ K ae ai)) (F:Fun K bQ bQ Gz f fd):FnOk P w K mg base (L2.CX P w) (72) f fd [af,aa] (Iy K ae ai):=by
 refine F.okX x5 (fun vs H Q E h=>?_) (fun _ A _ _ H vs Q E hr h=>?_)
 ·obtain ⟨v,w,b,g,ns,rfl,_⟩:=h
  rfl
 obtain ⟨v,w,b,g,ns,rfl,hv,hg,hl,hd,hp,hk,hn,q,qE⟩:=h;have bq:=bh hr;refine ⟨_,Qe (ps_for (passes_of rfl) rfl (pi_list (bc zG (Hm hr) rfl (Qa (pv 1) Qb))) (pg_name (i:=2) x5.nd rfl (.inl rfl))
   (Qe (Kf (jb sR (Hm hr) rfl (takes_of rfl rfl rfl rfl) (Qa (pv 0) (Qa (pv 2) Qb)))))),?_⟩
 refine ⟨_,Ja,w,g,ns,Ja,hg,hd,hp,hk,hn,fun l ss H1 s1 nl YK so sl=>?_⟩;refine ⟨l,Ja,⟨_,SqL.of YK⟩,?_⟩;refine for_it (walk_list (xs:=ss.map V.str)) (fun i σ H2=>SB [] H1 H2/\(∀ m ∈ ss.take i,¬ (m ∉ b.names))/\∃ o2,σ=[some v,some w,o2]) ⟨SB.refl,by simp,none,Ja⟩ (fun i σ H2 hi h2=>h2.1.fu aL (SqL.of YK)) (fun i x σ Hq H2 hi h2 y=>?_) (fun σ H2 h2=>?_)
 ·obtain ⟨s2,zj,o2,rfl⟩:=h2;obtain ⟨rfl,ey⟩:=y;rw [List.getElem?_map] at ey;obtain ⟨k,ek,rfl⟩:=Kr ey;have iX:=s1.trans s2;refine ⟨_,Ja,_,Ja,v,b,k,Ja,hv.dI iX,by omega,fun kd e H3 s3=>⟨s2.trans s3,fun m hm=>?_,_,Ja⟩,fun z d H3 s3 nd YS=>qE k (.at so ek (fun hm=>?_) zj) d H3 (iX.trans s3) (iX.kh _ nd) YS⟩
  ·rw [Yg,ek] at hm;rcases Qw hm with z | z
   ·exact zj m z
   ·rw [Qy z];exact fun z=>z (Ku ⟨kd,(Bk.get_some e).1,(Bk.get_some e).2⟩)
  ·obtain ⟨kd,e⟩:=Bk.dW hm;rw [e] at z; cases z
 ·obtain ⟨s2,zj,o2,rfl⟩:=h2;rw [Ye,Yh] at zj;exact q (fun x hx=>Classical.byContradiction fun z=>zj x.1.1 ((so.mem _).mpr (Ku ⟨x,hx,Ja⟩)) z) _ (s1.trans s2)
abbrev O0:List Str:=[cF,aq,eU,aR]
theorem iw:FnScope O0 [cF] (defScope C5):=fS
theorem zgg (B:BI mg) (g6:∃ t,mg "MOST_KINDS"=some (.int (8) t)) (MD:Got P w K mg base j9 [aq] (86) (WC K)) (MA:Got P w K mg base ff [aR,eU] (71) (QB K)) (F:Fun K fZ fZ C5 f fd):FnOk P w K mg base CX0 (87) f fd [cF] (Xf K):=by
 refine F.ok iw (fun vs H Q E h=>?_) (fun _ A _ _ H vs Q E hr h=>?_)
 ·obtain ⟨l,xs,ts,rfl,_⟩:=h
  rfl
 obtain ⟨l,xs,ts,rfl,hs,ha,hf,hl,q⟩:=h;obtain ⟨zV,qt⟩:=g6;have bq:=bh hr;refine ⟨_,Qc (Qr (Qp (pt_chain op_le op_le Qg (Qs call_len_seq rfl B.len PySem.boot_len (Qa (pv 0) Qb)) (pe_glob (v:=.int (8)) rfl qt ⟨_,Ja⟩))) (Qe (Qj pe_bl)) pss_nil)
  (Qc (ps_for PassesOwn.never rfl (pi_list (pv 0)) (pg_name (i:=1) iw.nd rfl (.inl rfl))
   (Qe (Qr (Qp (Qo (bc MD (Hm hr) rfl (Qa (pv 1) Qb)))) (Qe (Qj pe_bl)) pss_nil)))
  (Qc (ps_set (i:=2) iw.nd rfl (.inr rfl) (pe_lc (own:=[(aq,1)]) (g:=(gName 1)) (tt:=tYes) (te:=(tOp (rIxT K) (tVar 1) (tC (.int 0)))) rfl iw.nd (pi_list (pv 0)) (blkOk_by (N:=O0) (sc:=defScope C5) (by decide +kernel)) (fun _ _ _ _ _=>(pg_name (i:=1) iw.nd rfl (.inl rfl))) (fun _ _ _ _ _=>pts_nil) (fun _ _ _ _ _=>(Qm Ql (pv 1) Qg (fun _ _=>rfl)))))
  (Qc (Qr (pt_cmpR op_ne (zbh rfl B rfl rfl (pv 2)) (Qs call_len_seq rfl B.len PySem.boot_len (Qa (pv 2) Qb)) (nomark _)) (Qe (Qj pe_bl)) pss_nil)
  (Qe (Qj (Qs (cr_all rfl) rfl B.all boot_all (Qa (pe_lc2 (own:=[(aq,1),(aR,3)]) (vs1:=[3]) (wi1:=(iList K (tOp (rIxT K) (tVar 1) (tC (.int 2))))) (g:=(gName 1)) (g1:=(gName 3)) (tt:=tYes) (tt1:=tYes) (te:=(tCall (QB K) [] E0 (tCons (tVar 3) (tCons (tVar 2) tNil)))) rfl iw.nd (pi_list (pv 0)) (blkOk_by (N:=O0) (sc:=defScope C5) (by decide +kernel)) (by simp) (fun _ _ _ _ _=>(pg_name (i:=1) iw.nd rfl (.inl rfl))) (fun _ _ _ _ _=>pts_nil) (fun _ _ _ _ _=>(pi_list (Qm Ql (pv 1) Qg (fun _ _=>rfl)))) (fun _ _ _ _ _=>(pg_name (i:=3) iw.nd rfl (.inl rfl))) (fun _ _ _ _ _=>pts_nil) (fun _ _ _ _ _=>(bc MA (Hm hr) rfl (Qa (pv 3) (Qa (pv 2) Qb))))) Qb))))))),?_⟩
 have no:¬ ER ts->∀ H',SB [] H H'->Q (.bl false) H':=fun e H' s'=>q false H' s' ⟨(fun z=>nomatch z),fun z=>absurd z e⟩;have pC:=ha.length;have iV:=sizeLine_eq;refine ⟨_,Ja,l,xs,Ja,.inl hs,_,_,Ja,Ja,_,Ja,?_⟩;refine ite2 (fun c=>?_) (fun c=>?_)
 ·have c1:=Ks c;refine ⟨_,_,Ja,Ja,_,Ja,?_⟩;cases c8:decide (((xs.length:Nat):Int)<=8) with
  | false =>
   have c2:=of_decide_eq_false c8;refine iteT (no ?_ _ SB.refl)
   rintro ⟨b,e,ok⟩
   have:=ok.len;rw [e,Ye] at pC;omega
  | true =>
  refine iteF ?_;have c2:=Ks c8;refine ⟨_,Ja,l,Ja,⟨xs,hs⟩,?_⟩;refine for_list (K:=K) (a:=l) (xs:=xs) (fun i σ H2=>SB [] H H2/\(∃ o,σ=[some (.ref l),o,none,none])/\∀ t ∈ ts.take i,zA t) ⟨SB.refl,⟨none,Ja⟩,by simp⟩ (fun i σ H2 hi h2=>h2.1.fu aL hs) (fun i x σ H2 hx h2=>?_) (fun σ H2 h2=>?_)
  ·obtain ⟨h2,⟨o,rfl⟩,h3⟩:=h2;obtain ⟨t,et,ht⟩:=ha.get hx;have mt:=Qu et;refine ⟨_,Ja,x,t,Ja,VE h2 ht,hf t mt,fun b H3 s3 hb=>?_⟩;refine ⟨_,Ja,?_⟩;cases b with
   | false =>
    refine iteT (no ?_ _ (h2.trans s3))
    rintro ⟨bk,e,ok⟩
    rw [e] at mt;obtain ⟨k,hk,rfl⟩:=Qx mt;obtain ⟨o1,o2,o3⟩:=ok.kd k hk;exact nomatch hb.mpr ⟨k,rfl,o1,o2,fun r hr=>(o3 r hr).1⟩
   | true =>
    refine iteF ⟨h2.trans s3,⟨_,Ja⟩,fun t' YA=>?_⟩;rw [Yg,et,Option.toList_some] at YA;rcases Qw YA with h | h
    ·exact h3 t' h
    ·rw [Qy h]; exact hb.mp rfl
  ·obtain ⟨h2,⟨o,rfl⟩,h3⟩:=h2;rw [pC,Yh] at h3;obtain ⟨bk,et,hk⟩:=Vr h3;subst et;rw [Ye] at pC;have xM:=(ha.sb h2).kd;have fA:=h2.fu aL hs;refine ⟨_,Ja,l,Ja,⟨xs,fA⟩,fun D hD=>?_⟩;refine tu (walk_list (xs:=xs)) hD (by omega) (fun i us _=>us=((Bk.names bk).take i).map V.str) rfl (fun H6 s6=>s6.fu aL fA) (fun _ _ _ _ _ h=>h) (fun Pv i x H6 H' us hi s6 y hR R9 fin _=>?_) (fun us H6 s6 i4 hR _=>?_)
   ·obtain ⟨rfl,ex⟩:=y;obtain ⟨k,ek,t,r,zs,rfl,g1,g2,g3,_⟩:=xM.get ex;refine ⟨rfl,_,Ja,t,_,_,_,Ja,Ja,s6.aP g1,atI_nat (j:=0) rfl,fin _ _ SB.refl ?_⟩;rw [hR,Yg,List.getElem?_map,ek,Option.map_some,Option.toList_some,Yj]; rfl
   ·rw [pC,show (Bk.names bk).take bk.length=Bk.names bk by rw [List.take_of_length_le (by simp)]] at hR;subst hR;have zY:=h2.trans s6;refine ⟨_,Ja,D,Bk.names bk,Ja,SqL.of i4,by rw [Ye]; omega,?_⟩;refine ⟨_,Ja,D,_,Ja,.inl (SqL.of i4),Ja,_,Ja,?_⟩;have Ga:=z8h (Bk.names bk);rw [show (List.map V.str (Bk.names bk)).length=(Bk.names bk).length from List.length_map ..];by_cases nd:(Bk.names bk).Nodup
    ·rw [Ga.mpr nd,show (!decide (V.int ((Bk.names bk).length:Nat)=V.int ((Bk.names bk).length:Nat)))=false by simp];refine iteF ?_;have ha6:=xM.sb s6 dc.nil;have YC:=s6.fu aL fA;refine ⟨_,Ja,l,Ja,⟨xs,YC⟩,fun E1 Gf=>?_⟩;have good:∀ r:Ru,(∃ k ∈ bk,r ∈ k.rs)->dC r:=fun r ⟨k,h1,h2⟩=>(hk k h1).2.2 r h2;refine DM (walk_list (xs:=xs)) (fun i H2=>SB [E1] H6 H2/\∃ bs:List Bool,H2 E1=some (.lst (bs.map V.bl))/\bs=((bk.take i).flatMap fun k=>k.rs.map fun r=>decide (∀ p ∈ Ru.within r,p.1.1 ∈ Bk.names bk))) ⟨SB.new Gf _,[],Qt,Ja⟩ (fun i H2 hi h2=>(h2.1.drop Gf).fu aL YC) (fun i x H2 H' hi h2 y=>?_) (fun H2 h2=>?_)
     ·obtain ⟨s7,bs,OI,oC⟩:=h2;obtain ⟨rfl,ex⟩:=y;obtain ⟨k,ek,t,r,zs,rfl,g1,g2,g3,_⟩:=ha6.get ex;have mk:=Qu ek;have zl:=g3.length;have r4:=(hk k mk).2.1;have QN:=s7.drop Gf;refine ⟨rfl,?_⟩;refine ⟨_,Ja,t,_,_,_,Ja,Ja,QN.aP g1,atI_nat (j:=2) rfl,r,Ja,⟨zs,SqL.of (QN.keep _ _ g2 aL)⟩,?_⟩;have iD:((bk.take (i+1)).flatMap fun k=>k.rs.map fun r=>decide (∀ p ∈ Ru.within r,p.1.1 ∈ Bk.names bk))=((bk.take i).flatMap fun k=>k.rs.map fun r=>decide (∀ p ∈ Ru.within r,p.1.1 ∈ Bk.names bk))++k.rs.map fun r=>decide (∀ p ∈ Ru.within r,p.1.1 ∈ Bk.names bk):=by rw [Yg,ek]; simp
      have hlen:bs.length<=4*i:=by
       rw [oC];clear oC OI s7 QN iD ex ek
       induction i with
       | zero=>simp
       | succ i ih =>
        rw [Yg,List.flatMap_append,Yf];have:=ih (by omega);cases e:bk[i]? with
        | none=>simp only [Option.toList_none,List.flatMap_nil,List.length_nil]; omega
        | some k2 =>
         have:=(hk k2 (Qu e)).2.1;simp only [Option.toList_some,List.flatMap_cons,List.flatMap_nil,List.append_nil,Ye]; omega
      refine DM (walk_list (xs:=zs)) (fun j H3=>SB [E1] H6 H3/\∃ Gj:List Bool,H3 E1=some (.lst (Gj.map V.bl))/\Gj=bs++((k.rs.take j).map fun r=>decide (∀ p ∈ Ru.within r,p.1.1 ∈ Bk.names bk))) ⟨s7,bs,OI,by simp⟩ (fun j H3 hj h3=>(h3.1.drop Gf).fu aL (SqL.of g2)) (fun j x H3 H4 hj h3 y=>?_) (fun H3 h3=>?_)
      ·obtain ⟨s8,Gj,S2,Bj⟩:=h3;obtain ⟨rfl,ex2⟩:=y;obtain ⟨ru,er,hru⟩:=g3.get ex2;have XM:=s8.drop Gf;have mr:=Qu er;refine ⟨rfl,?_⟩;refine ⟨_,Ja,_,Ja,_,D,ru,Bk.names bk,Ja,fK XM _ _ (Ru.ag _) hru,(hk k mk).2.2 ru mr,SqL.of (XM.keep _ _ i4 aL),by rw [Ye]; omega,fun H9 s9=>?_⟩;have Zb:=s9.keep _ _ S2 aL;refine ⟨_,Zb,?_,(s8.trans s9.nil).trans (SB.set Zb (by simp) _),Gj++[decide (∀ p ∈ Ru.within ru,p.1.1 ∈ Bk.names bk)],(by rw [Qt,Yj]; rfl),?_⟩
       ·rw [Ye,Bj,Yf,Ye,Kx];omega
       ·rw [Bj,Yg,er,Option.toList_some,Yj,<- List.append_assoc];exact rfl
      ·obtain ⟨s8,Gj,S2,Bj⟩:=h3;refine ⟨s8,Gj,S2,?_⟩;rw [iD,Bj,oC,zl,Yh]
     ·obtain ⟨s7,bs,OI,oC⟩:=h2;rw [pC,Yh] at oC;refine ⟨E1,bs,Ja,SqL.of OI,q _ _ (zY.trans (s7.drop Gf)) ?_⟩;rw [oC];simp only [List.all_flatMap,List.all_map,List.all_eq_true,Function.comp,id_eq,decide_eq_true_eq];constructor
      ·intro h;exact ⟨bk,Ja,by omega,by omega,nd,fun k mk=>⟨(hk k mk).1,(hk k mk).2.1,fun r mr=>⟨(hk k mk).2.2 r mr,h k mk r mr⟩⟩⟩
      ·rintro ⟨b2,e2,ok⟩ k mk r mr
       have e3:=Pn e2;subst e3;exact ((ok.kd k mk).2.2 r mr).2
    ·rw [show (!decide (V.int ((met (Bk.names bk) (Bk.names bk).length).length:Nat)=V.int ((Bk.names bk).length:Nat)))=true by
      rw [Qz (fun z=>by injection z with z; exact nd (Ga.mp (by omega)))]; rfl]
     refine iteT (no ?_ _ zY)
     rintro ⟨b2,e2,ok⟩
     have e3:=Pn e2;subst e3;exact nd ok.nd
 ·have c1:=of_decide_eq_false (Bool.eq_false_iff.mpr c);refine ⟨_,Ja,?_⟩;refine iteT (no ?_ _ SB.refl)
  rintro ⟨b,e,ok⟩
  have:=ok.pos;rw [e,Ye] at pC;omega
abbrev Vh:List Str:=[aq,aI,"spreading","rows","row"]
theorem kB:FnScope Vh [aq] (defScope Fb):=fS
theorem zgy (B:BI mg) (gZ:∃ t,mg "MOST_RULES"=some (.int (4) t)) (MC:Got P w K mg base iq [aq] (2) (O4 K)) (MB:Got P w K mg base j8 [aq] (85) (PQ K)) (F:Fun K j9 j9 Fb f fd):FnOk P w K mg base CX0 (86) f fd [aq] (WC K):=by
 refine F.ok kB (fun vs H Q E h=>?_) (fun _ A _ _ H vs Q E hr h=>?_)
 ·obtain ⟨v,t,rfl,_⟩:=h
  rfl
 obtain ⟨v,t,rfl,th,hf,q⟩:=h;obtain ⟨zU,qr⟩:=gZ;have bq:=bh hr;refine ⟨_,Qc (Qr (PW.pt (Kk (Qp (Qo (xC B (pv 0) B.tuple boot_tuple))) (pw_or1 (pt_cmpR op_ne (Qs call_len_seq rfl B.len PySem.boot_len (Qa (pv 0) Qb)) Qg (nomark _))))) (Qe (Qj pe_bl)) pss_nil)
  (Qc (ps_asg (pv 0) (pg_tup rfl (Qi (pg_name (i:=1) kB.nd rfl (.inl rfl)) (Qi (pg_name (i:=2) kB.nd rfl (.inl rfl)) (Qi (pg_name (i:=3) kB.nd rfl (.inl rfl)) pgs_nil)))))
  (Qc (Qr (PW.pt (Kk (Qp (Qo (bc MC (Hm hr) rfl (Qa (pv 1) Qb)))) (pw_or1 (Qp (Qo (xC B (pv 2) B.bool boot_bool)))))) (Qe (Qj pe_bl)) pss_nil)
  (Qe (Qj (pe_and (xC B (pv 3) B.list boot_list) (pe_and (pe_cmpR op_le (Qs call_len_seq rfl B.len PySem.boot_len (Qa (pv 3) Qb)) (pe_glob (v:=.int (4)) rfl qr ⟨_,rfl⟩) (nomark _)) (pe_one (Qs (cr_all rfl) rfl B.all boot_all (Qa (pe_lc (own:=[("row",4)]) (g:=(gName 4)) (tt:=tYes) (te:=(tCall (PQ K) [] E0 (tCons (tVar 4) tNil))) rfl kB.nd (pi_list (pv 3)) (blkOk_by (N:=Vh) (sc:=defScope Fb) (by decide +kernel)) (fun _ _ _ _ _=>(pg_name (i:=4) kB.nd rfl (.inl rfl))) (fun _ _ _ _ _=>pts_nil) (fun _ _ _ _ _=>(bc MB (Hm hr) rfl (Qa (pv 4) Qb)))) Qb))))))))),?_⟩
 have no:¬ zA t->∀ H',SB [] H H'->Q (.bl false) H':=fun e H' s'=>q false H' s' ⟨(fun z=>nomatch z),fun z=>absurd z e⟩;cases t with
 | other =>
  have n0:¬ zA .other:=by rintro ⟨k,e,_⟩; cases e
  obtain ⟨d,tg,hd⟩:=th;obtain ⟨n1,b,ty,kb,y1,y2⟩:=tg.ty;refine ⟨_,Ja,_,_,n1,b,Ja,ty,kb,b,Ja,?_⟩;cases b with
  | false=>exact iteT (iteT (no n0 _ SB.refl))
  | true =>
  refine iteF ?_;obtain ⟨a,xs,ds,rfl,rfl,hs,ha⟩:=y1 rfl;refine ⟨_,Ja,a,xs,Ja,.inr hs,Ja,_,Ja,?_⟩;have hl:=TgAll.length ha;have h3:=hd ds rfl;rw [show (!decide (V.int (xs.length:Nat)=V.int 3))=true by rw [Qz (fun z=>by injection z with z; omega)]; rfl];exact iteT (no n0 _ SB.refl)
 | three d w rs =>
  obtain ⟨a,x,y,z,rfl,hs,tx,ty,tz⟩:=th;refine ⟨_,rfl,_,_,"tuple",true,rfl,HP hs,by decide +kernel,_,rfl,?_⟩;refine iteF ?_;refine ⟨_,Ja,a,_,Ja,.inr hs,Ja,_,Ja,?_⟩;rw [show (!decide (V.int (([x,y,z]:List V).length:Nat)=V.int 3))=false from rfl];refine iteF ?_;refine ⟨_,Ja,a,_,Ja,hs,Ja,_,_,Ja,_,_,Ja,_,_,Ja,Ja,?_⟩;refine ⟨_,Ja,x,d,Ja,tx,fun H1 s1=>?_⟩;refine ⟨_,Ja,?_⟩;cases g1:wb d with
  | false =>
   refine iteT (iteT (no ?_ _ s1))
   rintro ⟨k,e,hk,_⟩
   injection e with e _ _
   rw [e,WD hk] at g1;cases g1
  | true =>
  refine iteF ?_;obtain ⟨nm,rfl,hnm⟩:=P8 g1;cases w with
  | none =>
   obtain ⟨n,ty,kb⟩:=ty;refine ⟨_,Ja,_,_,n,false,Ja,C7 s1 (fun _ _=>aL) ty,kb,_,Ja,?_⟩;refine iteT (no ?_ _ s1)
   rintro ⟨k,e,_⟩
   injection e with _ e _
   cases e
  | some bb =>
  have ty:y=.bl bb:=ty;subst ty;refine ⟨_,rfl,_,_,"bool",true,rfl,.base (.bl bb),by decide +kernel,_,rfl,?_⟩;refine iteF ?_;cases rs with
  | none =>
   obtain ⟨n,ty,kb⟩:=tz;refine ⟨_,Ja,_,_,n,false,Ja,C7 s1 (fun _ _=>aL) ty,kb,_,Ja,?_⟩;refine iteF (no ?_ _ s1)
   rintro ⟨k,e,_⟩
   injection e with _ _ e
   cases e
  | some ds =>
  obtain ⟨l,zs,rfl,hl,ha⟩:=tz;obtain ⟨nQ,hd2⟩:=hf ds rfl;refine ⟨_,rfl,_,_,"list",true,rfl,zgx (s1.fu aL (SqL.of hl)),by decide +kernel,_,rfl,?_⟩;refine iteT ?_;have hlen:=TgAll.length ha;refine ⟨_,Ja,l,_,Ja,.inl (s1.fu aL (SqL.of hl)),_,_,Ja,Ja,_,Ja,?_⟩;refine ite2 (fun c=>?_) (fun c=>?_)
  ·have c1:=Ks c;rw [hlen] at c1;have iV:=sizeLine_eq;refine ⟨_,Ja,l,Ja,⟨_,s1.fu aL (SqL.of hl)⟩,fun D hD=>?_⟩;refine tu (walk_list (xs:=zs)) hD (by omega) (fun i us _=>∃ bs:List Bool,us=bs.map V.bl/\bs.length=i/\∀ j b,bs[j]?=some b->∀ x,ds[j]?=some x->(b=true ↔ EL x)) ⟨[],Ja,Ja,fun j b h=>by rw [List.getElem?_nil] at h; cases h⟩ (fun H6 s6=>s6.fu aL (s1.fu aL (SqL.of hl))) (fun _ _ _ _ _ h=>h) (fun Pv i x H6 H' us hi s6 y hR R9 fin _=>?_) (fun us H6 s6 i4 hR _=>?_)
   ·obtain ⟨rfl,ex⟩:=y;obtain ⟨p,ep,hp⟩:=TgAll.get ha ex;obtain ⟨bs,rfl,kg,oC⟩:=hR;refine ⟨rfl,_,Ja,x,p,Ja,zQ (s1.trans s6) hp,hd2 _ (Qu ep),fun b H7 s7 hb=>fin _ _ s7 ⟨bs++[b],by rw [Yj]; rfl,by rw [Yf,kg]; rfl,fun j b' hj y hy=>?_⟩⟩;by_cases hji:j < bs.length
    ·rw [List.getElem?_append_left hji] at hj;exact oC j b' hj y hy
    ·have hj':j=bs.length:=by
      have:=(Kq hj).1;rw [Yf,Yi] at this;omega
     subst hj';rw [List.getElem?_append_right (Yc _),Nat.sub_self] at hj;cases hj;rw [kg,ep] at hy;cases hy;exact hb
   ·obtain ⟨bs,rfl,kg,oC⟩:=hR;refine ⟨D,bs,Ja,SqL.of i4,q _ _ (s1.trans s6) ?_⟩;have h1:(bs.all id=true) ↔ ∀ x ∈ ds,EL x:=by
     rw [List.all_eq_true];constructor
     ·intro h x hx;obtain ⟨j,hj,e⟩:=List.getElem_of_mem hx;have JJ:j < bs.length:=by omega
      exact (oC j bs[j] (Kp JJ) x (by rw [Kp hj,e])).mp (h _ (List.getElem_mem JJ))
     ·intro h b hb;obtain ⟨j,hj,e⟩:=List.getElem_of_mem hb;have JJ:j < ds.length:=by omega
      exact (oC j b (by rw [Kp hj,e]) ds[j] (Kp JJ)).mpr (h _ (List.getElem_mem JJ))
    rw [h1];constructor
    ·intro h;obtain ⟨rr,e1,e2⟩:=V7 h;exact ⟨⟨nm,bb,rr⟩,by rw [Kd.kt,e1],hnm,by rw [e1,Ye] at c1; show rr.length<=4; omega,e2⟩
    ·rintro ⟨k,e,_,_,hk⟩ x hx
     injection e with _ _ e
     injection e with e
     rw [e] at hx;obtain ⟨r,hr,rfl⟩:=Qx hx;exact ⟨r,Ja,hk r hr⟩
  ·have c1:=of_decide_eq_false (Bool.eq_false_iff.mpr c);rw [hlen] at c1;refine no ?_ _ s1
   rintro ⟨k,e,_,h4,_⟩
   injection e with _ _ e
   injection e with e
   rw [e,Ye] at c1;omega
abbrev UZ:List Str:=[aq,"once","each",dQ,aZ,aX]
theorem jg:FnScope UZ [aq] (defScope Fq):=fS
theorem zhu (B:BI mg) (dZ:∃ t,mg "MOST_RULE_PARTS"=some (.int (4) t)) (iK:∃ t,mg "MOST_MANY"=some (.int (1000000000) t)) (CQ:Got P w K mg base dS [aq] (84) (FO K 81)) (mS:Got P w K mg base bf [aa] (70) (BO K 70)) (F:Fun K j8 j8 Fq f fd):FnOk P w K mg base CX0 (85) f fd [aq] (PQ K):=by
 refine F.ok jg (fun vs H Q E h=>?_) (fun _ A _ _ H vs Q E hr h=>?_)
 ·obtain ⟨v,d,rfl,_⟩:=h
  rfl
 obtain ⟨v,d,rfl,th,hf,q⟩:=h;obtain ⟨tG,jX⟩:=dZ;obtain ⟨Ar,sv⟩:=iK;have bq:=bh hr;refine ⟨_,Qc (Qr (PW.pt (Kk (Qp (Qo (xC B (pv 0) B.tuple boot_tuple))) (pw_or1 (pt_cmpR op_ne (Qs call_len_seq rfl B.len PySem.boot_len (Qa (pv 0) Qb)) Qg (nomark _))))) (Qe (Qj pe_bl)) pss_nil)
  (Qc (ps_asg (pv 0) (pg_tup rfl (Qi (pg_name (i:=1) jg.nd rfl (.inl rfl)) (Qi (pg_name (i:=2) jg.nd rfl (.inl rfl)) pgs_nil))))
  (Qc (Qr (PW.pt (Kk (Qp (Qo (bc CQ (Hm hr) rfl (Qa (pv 1) Qb)))) (pw_or1 (Qp (Qo (bc CQ (Hm hr) rfl (Qa (pv 2) Qb))))))) (Qe (Qj pe_bl)) pss_nil)
  (Qc (ps_set (i:=3) jg.nd rfl (.inl rfl) (pe_op op_cat (bc mS (Hm hr) rfl (Qa (pv 1) Qb)) (bc mS (Hm hr) rfl (Qa (pv 2) Qb))))
  (Qe (Qj (pe_and (pe_cmpR op_le (Qs call_len_seq rfl B.len PySem.boot_len (Qa (pv 3) Qb)) (pe_glob (v:=.int (4)) rfl jX ⟨_,rfl⟩) (nomark _)) (pe_one (Qs (cr_all rfl) rfl B.all boot_all (Qa (pe_lc (own:=[(aZ,4),(aX,5)]) (g:=(gTup K 2 (gCons (gName 4) (gCons (gName 5) gNil)))) (tt:=tYes) (te:=(tOp (rI0 fun i j=>.bl (decide (i<=j))) (tVar 5) (tC (.int (1000000000))))) rfl jg.nd (pi_list (pv 3)) (blkOk_by (N:=UZ) (sc:=defScope Fq) (by decide +kernel)) (fun _ _ _ _ _=>(pg_tup rfl (Qi (pg_name (i:=4) jg.nd rfl (.inl rfl)) (Qi (pg_name (i:=5) jg.nd rfl (.inl rfl)) pgs_nil)))) (fun _ _ _ _ _=>pts_nil) (fun _ _ _ _ _=>(pe_cmpR op_le (pv 5) (pe_glob (v:=.int (1000000000)) rfl sv ⟨_,rfl⟩) (nomark _)))) Qb))))))))),?_⟩
 have no:¬ EL d->∀ H',SB [] H H'->Q (.bl false) H':=fun e H' s'=>q false H' s' ⟨(fun z=>nomatch z),fun z=>absurd z e⟩;obtain ⟨n1,b,ty,kb,y1,y2⟩:=th.ty;refine ⟨_,Ja,_,_,n1,b,Ja,ty,kb,b,Ja,?_⟩;cases b with
 | false =>
  refine iteT (iteT (no ?_ _ SB.refl))
  rintro ⟨r,e,_⟩
  exact y2 rfl _ e
 | true =>
 refine iteF ?_;obtain ⟨a,xs,ds,rfl,rfl,hs,ha⟩:=y1 rfl;refine ⟨_,Ja,a,xs,Ja,.inr hs,Ja,_,Ja,?_⟩;have hl:=TgAll.length ha;by_cases c2:xs.length=2
 ·rw [show (!decide (V.int (xs.length:Nat)=V.int 2))=false by rw [c2]; rfl];refine iteF ?_;cases ha with
  | nil=>simp at c2
  | cons t1 ta =>
   cases ta with
   | nil=>simp at c2
   | cons t2 ta =>
    cases ta with
    | cons t3 ta=>simp at c2
    | nil =>
     rename_i v1 d1 v2 d2;obtain ⟨f1,f2,f3⟩:=hf;have q1:d1.depth < PyData.depth (.tuple [d1,d2])/\d2.depth < PyData.depth (.tuple [d1,d2]):=by simp only [PyData.depth,PyData.depthAll]; omega
     have q2:wide d1<=wide (.tuple [d1,d2])/\wide d2<=wide (.tuple [d1,d2]):=by simp only [wide,tj]; omega
     refine ⟨_,Ja,a,_,Ja,hs,Ja,_,_,Ja,_,_,Ja,Ja,?_⟩;refine ⟨_,Ja,v1,d1,Ja,t1,by omega,by omega,by omega,fun H1 s1=>?_⟩;refine ⟨_,Ja,?_⟩;cases g1:jC d1 with
     | false =>
      refine iteT (iteT (no ?_ _ s1));intro z;obtain ⟨g,k,e,z1,_⟩:=VY z
      injection e with e
      injection e with e _
      rw [e,z1] at g1;cases g1
     | true =>
     refine iteF ?_;refine ⟨_,Ja,v2,d2,Ja,zQ s1 t2,by omega,by omega,by omega,fun H2 s2=>?_⟩;have iX:=s1.trans s2;refine ⟨_,Ja,?_⟩;cases g2:jC d2 with
     | false =>
      refine iteT (no ?_ _ iX);intro z;obtain ⟨g,k,e,_,z1⟩:=VY z
      injection e with e
      injection e with _ e
      injection e with e _
      rw [e,z1] at g2;cases g2
     | true =>
     refine iteF ?_;obtain ⟨u1,rfl⟩:=P5 _ g1;obtain ⟨u2,rfl⟩:=P5 _ g2;obtain ⟨w1,w2⟩:=f3 _ _ rfl u1 (.inl rfl);obtain ⟨w3,w4⟩:=f3 _ _ rfl u2 (.inr rfl);have Td:GA K H v1 u1:=by
      cases t1 with
      | tup h1 h2=>exact .tup h1 (C1 u1 h2)
     have Tc:GA K H v2 u2:=by
      cases t2 with
      | tup h1 h2=>exact .tup h1 (C1 u2 h2)
     refine ⟨_,Ja,_,u1,Ja,Td.sb iX,by omega,by omega,fun D1 xT H3 s3 z9 sA yM=>?_⟩;refine ⟨_,Ja,_,u2,Ja,(Tc.sb iX).sb s3,by omega,by omega,fun D2 wq H4 s4 uF aW bY=>?_⟩;have l1:=yM.length;have l2:=bY.length;rw [Gr.bG] at l1 l2;have iV:=sizeLine_eq;refine ⟨D1,D2,xT,wq,Ja,Ja,s4.keep _ _ sA aL,aW,by omega,fun D3 vK=>?_⟩;have t5:=Jb vK (.lst (xT++wq));have qN:=((iX.trans s3).trans s4).trans t5;have bW:=n6 t5;have gI:Bears K (upd H4 D3 (.lst (xT++wq))) Gr.aG (xT++wq) (u1.within++u2.within):=Bears.append ((yM.sb s4 Gr.aj).sb t5 Gr.aj) (bY.sb t5 Gr.aj);generalize upd H4 D3 _=H5 at t5 qN bW gI;have Je:=zf6 g1 g2;refine ⟨_,Ja,D3,_,Ja,.inl (SqL.of bW),_,_,Ja,Ja,_,Ja,?_⟩;refine ite2 (fun c=>?_) (fun c=>?_)
     ·have c1:=Ks c;rw [Yf,l1,l2] at c1;have TQ:=gI.length;refine ⟨_,Ja,D3,Ja,⟨_,SqL.of bW⟩,fun D hD=>?_⟩;refine tu (walk_list (xs:=xT++wq)) hD (by rw [Yf]; omega) (fun i us _=>us=((u1.within++u2.within).take i).map fun p=>V.bl (decide (p.2<=1000000000))) rfl (fun H6 s6=>s6.fu aL (SqL.of bW)) (fun _ _ _ _ _ h=>h) (fun Pv i x H6 H' us hi s6 y hR R9 fin _=>?_) (fun us H6 s6 i4 hR _=>?_)
      ·obtain ⟨rfl,ex⟩:=y;obtain ⟨p,ep,eJ⟩:=gI.get ex;obtain ⟨ad,td,ux,rfl,fA,lC,hV,JS⟩:=nj eJ;refine ⟨ad,_,Ja,s6.aP fA,Ja,_,_,Ja,_,_,Ja,Ja,Ja,?_⟩;refine ⟨_,Ja,_,_,Ja,Ja,fin _ _ SB.refl ?_⟩;rw [hR,Yg,ep,Option.toList_some,Yj]; rfl
      ·rw [TQ,Yh] at hR;subst hR;refine ⟨D,((u1.within++u2.within).map fun p=>decide (p.2<=1000000000)),Ja,SqL.of (by rw [List.map_map]; exact i4),q _ _ (qN.trans s6) ?_⟩;rw [Je];simp only [List.all_map,List.all_eq_true,Function.comp,id_eq,decide_eq_true_eq];exact ⟨fun h=>⟨by omega,h⟩,fun h=>h.2⟩
     ·have c1:=of_decide_eq_false (Bool.eq_false_iff.mpr c);rw [Yf,l1,l2] at c1;refine q false _ qN ⟨(fun z=>nomatch z),fun z=>absurd (Je.mp z).1 (by omega)⟩
 ·rw [show (!decide (V.int (xs.length:Nat)=V.int 2))=true by rw [Qz (fun z=>by injection z with z; omega)]; rfl];refine iteT (no ?_ _ SB.refl)
  rintro ⟨r,e,_⟩
  have e':PyData.tuple ds=.tuple [r.1.enc,r.2.enc]:=e
  injection e' with e'
  rw [e'] at hl;exact c2 hl
abbrev UL:List Str:=[aR,eU,"once","each",aZ,aX]
theorem kA:FnScope UL [aR,eU] (defScope Fd):=fS
theorem zfw (B:BI mg) (mS:Got P w K mg base bf [aa] (70) (BO K 70)) (F:Fun K ff ff Fd f fd):FnOk P w K mg base CX0 (71) f fd [aR,eU] (QB K):=by
 refine F.ok kA (fun vs H Q E h=>?_) (fun _ A _ _ H vs Q E hr h=>?_)
 ·obtain ⟨v,l,r,ns,rfl,_⟩:=h
  rfl
 obtain ⟨v,l,r,ns,rfl,hv,ho,hs,hn,q⟩:=h;have bq:=bh hr;refine ⟨_,Qc (ps_asg (pv 0) (pg_tup rfl (Qi (pg_name (i:=2) kA.nd rfl (.inl rfl)) (Qi (pg_name (i:=3) kA.nd rfl (.inl rfl)) pgs_nil))))
  (Qe (Qj (Qs (cr_all rfl) rfl B.all boot_all (Qa (pe_lc (own:=[(aZ,4),(aX,5)]) (g:=(gTup K 2 (gCons (gName 4) (gCons (gName 5) gNil)))) (tt:=tYes) (te:=(tOp (rIn K false) (tOp (rIxT K) (tVar 4) (tC (.int 0))) (tVar 1))) rfl kA.nd (pi_list (pe_op op_cat (bc mS (Hm hr) rfl (Qa (pv 2) Qb)) (bc mS (Hm hr) rfl (Qa (pv 3) Qb)))) (blkOk_by (N:=UL) (sc:=defScope Fd) (by decide +kernel)) (fun _ _ _ _ _=>(pg_tup rfl (Qi (pg_name (i:=4) kA.nd rfl (.inl rfl)) (Qi (pg_name (i:=5) kA.nd rfl (.inl rfl)) pgs_nil)))) (fun _ _ _ _ _=>pts_nil) (fun _ _ _ _ _=>(pe_cmpR op_in_seq (Qm Ql (pv 4) Qg (fun _ _=>rfl)) (pv 1) (by rfl)))) Qb)))),?_⟩
 obtain ⟨ho1,JA,ho3⟩:=ho;cases (hv:Dp K H v (.tuple [r.1.enc,r.2.enc])) with
 | tup ht hd =>
 rename_i a xs;cases hd with
 | cons g1 hd =>
 cases hd with
 | cons g2 hd =>
 cases hd;have OR:=(qL r.1);have dp2:=(qL r.2);refine ⟨_,Ja,a,_,Ja,ht,Ja,_,_,Ja,_,_,Ja,Ja,?_⟩;have Td:GA K H _ r.1:=g1;have Tc:GA K H _ r.2:=g2;refine ⟨_,Ja,_,r.1,Ja,Td,by omega,by omega,fun D1 xT H3 s3 z9 sA yM=>?_⟩;refine ⟨_,Ja,_,r.2,Ja,Tc.sb s3,by omega,by omega,fun D2 wq H4 s4 uF aW bY=>?_⟩;have l1:=yM.length;have l2:=bY.length;rw [Gr.bG] at l1 l2;have iV:=sizeLine_eq;refine ⟨D1,D2,xT,wq,Ja,Ja,s4.keep _ _ sA aL,aW,by omega,fun D3 vK=>?_⟩;have t5:=Jb vK (.lst (xT++wq));have qN:=(s3.trans s4).trans t5;have bW:=n6 t5;have gI:Bears K (upd H4 D3 (.lst (xT++wq))) Gr.aG (xT++wq) (r.1.within++r.2.within):=Bears.append ((yM.sb s4 Gr.aj).sb t5 Gr.aj) (bY.sb t5 Gr.aj);generalize upd H4 D3 _=H5 at t5 qN bW gI;have TQ:=gI.length;refine ⟨D3,Ja,⟨_,SqL.of bW⟩,fun D hD=>?_⟩;refine tu (walk_list (xs:=xT++wq)) hD (by rw [Yf]; omega) (fun i us _=>us=((r.1.within++r.2.within).take i).map fun p=>V.bl (decide (p.1.1 ∈ ns))) rfl (fun H6 s6=>s6.fu aL (SqL.of bW)) (fun _ _ _ _ _ h=>h) (fun Pv i x H6 H' us hi s6 y hR R9 fin _=>?_) (fun us H6 s6 i4 hR _=>?_)
 ·obtain ⟨rfl,ex⟩:=y;obtain ⟨p,ep,eJ⟩:=gI.get ex;obtain ⟨ad,td,ux,rfl,fA,lC,hV,JS⟩:=nj eJ;refine ⟨ad,_,Ja,s6.aP fA,Ja,_,_,Ja,_,_,Ja,Ja,Ja,?_⟩;refine ⟨_,Ja,td,_,_,_,Ja,Ja,s6.aP lC,atI_nat (j:=0) rfl,_,Ja,l,_,Ja,.inl ((qN.trans s6).fu aL hs),Ja,FN _,fin _ _ SB.refl ?_⟩;rw [hR,Yg,ep,Option.toList_some,Yj,FL]; rfl
 ·rw [TQ,Yh] at hR;subst hR;refine ⟨D,((r.1.within++r.2.within).map fun p=>decide (p.1.1 ∈ ns)),Ja,SqL.of (by rw [List.map_map]; exact i4),?_⟩;have:=q _ (qN.trans s6);rw [show (List.map (fun p:Tr × Int=>decide (p.1.1 ∈ ns)) (r.1.within++r.2.within)).all id=decide (∀ p ∈ Ru.within r,p.1.1 ∈ ns) by
   rw [Bool.eq_iff_iff];simp only [List.all_map,List.all_eq_true,Function.comp,id_eq,decide_eq_true_eq];exact Iff.rfl]
  exact this
abbrev zl7:List Str:=[aa,a7,aZ,"row",wa]
theorem kz:FnScope zl7 [aa,a7] (defScope GI):=fS
theorem zgu (B:BI mg) (O:Own K mg "NoPlace" C) (GW:Got P w K mg base dR [aq] 1 (HZ K)) (F:Fun K hY hY GI f fd):FnOk P w K mg base (L2.CX P w) 2 f fd [aa,a7] (NS K C):=by
 refine F.okX kz (fun vs H Q E h=>?_) (fun _ A _ _ H vs Q E hr h=>?_)
 ·obtain ⟨v,g,a,xs,os,rfl,_⟩:=h
  rfl
 obtain ⟨v,g,a,xs,os,rfl,hv,hs,hw,q,qE⟩:=h;refine ⟨_,Qc (Qr (Qp (pt_truth (pv 1) (by intro _; rfl))) (Qe (ps_raise rfl (takes_of rfl rfl rfl rfl) (pmk_own PySem.F.excBase_ValueError O.q O.gC O.k (raises_own O.s O.t) rfl))) pss_nil)
  (Qc (ps_set (i:=2) kz.nd rfl (.inl rfl) (Ka Qb))
  (Qc (ps_set (i:=3) kz.nd rfl (.inl rfl) (pv 0))
  (Qc (ps_for (passes_of rfl) rfl (pi_tup (pv 1)) (pg_name (i:=4) kz.nd rfl (.inl rfl))
   (Qc (Qr (PW.pt (Kk (Qp (Qo (bc GW hr rfl (Qa (pv 4) Qb)))) (pw_or1 (Qp (pt_chain op_le op_lt Qg (pv 4) (Qs call_len_seq rfl B.len PySem.boot_len (Qa (pv 3) Qb)))))))
    (Qe (ps_raise rfl (takes_of rfl rfl rfl rfl) (pmk_own PySem.F.excBase_ValueError O.q O.gC O.k (raises_own O.s O.t) rfl))) pss_nil)
   (Qc (ps_set (i:=2) kz.nd rfl (.inl rfl) (Qm Ql (Qm Ql (pv 3) (pv 4) (fun _ _=>rfl)) Qg (fun _ _=>rfl)))
   (Qe (ps_set (i:=3) kz.nd rfl (.inl rfl) (Qm Ql (pv 2) Qg (fun _ _=>rfl)))))))
  (Qe (Qj (pv 2)))))),?_⟩
 have wl:=hw.length;by_cases hnil:os=[]
 ·have x0:xs=[]:=by rw [hnil] at wl; exact List.length_eq_zero_iff.mp wl
  exact ⟨_,Ja,false,.inr (.inl ⟨xs,hs,by rw [x0]; rfl⟩),iteT (qE (.inl hnil) _ SB.refl)⟩
 have x1:xs ≠ []:=fun z=>hnil (by rw [z] at wl; exact List.length_eq_zero_iff.mp wl.symm);refine ⟨_,rfl,true,.inr (.inl ⟨xs,hs,by cases xs with | nil=>exact absurd rfl x1 | cons _ _=>rfl⟩),iteF ?_⟩;refine ⟨(Z0),fun e0 OD=>?_⟩;have t0:=Jb OD (.tup []);have Ji:=hv.sb t0;have Jp:=t0.aP hs;have Yx:Whs K (upd H e0 (.tup [])) xs os:=Whs.sb t0 hw;generalize hH0:upd H e0 (.tup [])=H0 at t0 Ji Jp Yx;refine ⟨_,Ja,_,Ja,a,Ja,⟨xs,Jp⟩,?_⟩;refine for_tup (K:=K) (a:=a) (xs:=xs) (fun i σ H2=>H2=H0/\∃ (tv rv:V) (t:Tr) (o4:Option V),σ=[some v,some (.ref a),some tv,some rv,o4]/\lk ("",g) (os.take i)=some t/\GA K H0 rv t.2/\(i=0\/Dp K H0 tv (Gr.aC t)))
  ⟨rfl,_,_,("",g),none,rfl,rfl,Ji,.inl rfl⟩ (fun i σ H2 hi h2=>by rw [h2.1]; exact Jp) (fun i x σ H2 hx h2=>?_) (fun σ H2 h2=>?_)
 ·obtain ⟨rfl,tv,rv,t,o4,rfl,vL,YD,_⟩:=h2;obtain ⟨o,eo,hwx⟩:=Yx.get hx;have bad:stp t.2 o=none->E (.ref C) none H2:=fun z=>qE (.inr (zfg vL eo z)) _ t0;rcases hwx with ⟨n,rfl,rfl⟩ | ⟨rfl,n,b1,b2,ty,k1,k2,k3⟩
  ·refine ⟨_,rfl,_,"int",true,false,rfl,.base (.int n),by decide +kernel,fun _=>by decide +kernel,true,rfl,iteF ?_⟩;obtain ⟨c,ys,rfl,mK,Cf⟩:=pz YD;have yl:=Cf.length;refine ⟨_,Ja,_,_,Ja,Ja,_,Ja,?_⟩;by_cases h0:0<=n
   ·rw [Ya h0];refine iteT ⟨_,Ja,c,ys,Ja,.inr mK,_,_,Ja,Ja,_,Ja,?_⟩;obtain ⟨m,rfl⟩:∃ m:Nat,n=(m:Int):=⟨n.toNat,by omega⟩;by_cases h1:m < ys.length
    ·rw [show decide ((m:Int) < (ys.length:Nat))=true from Ya (by omega)];refine iteF ?_;obtain ⟨y,hy⟩:∃ y,ys[m]?=some y:=⟨_,Kp h1⟩;obtain ⟨p,ep,eJ⟩:=Cf.get hy;obtain ⟨ad,bd,ux,rfl,xb,i9,yF,JS⟩:=nj eJ;refine ⟨_,Ja,_,Ja,c,ys,_,_,Ja,Ja,mK,atI_nat hy,ad,_,_,_,Ja,Ja,xb,atI_nat (j:=0) rfl,?_⟩;refine ⟨_,Ja,bd,_,_,_,Ja,Ja,i9,atI_nat (j:=1) rfl,?_⟩;have es:stp t.2 (some (m:Int))=some p.1:=by
      show (if 0<=(m:Int) then (t.2.ps[(m:Int).toNat]?).map (·.1) else none)=_;rw [if_pos h0,Int.toNat_natCast,ep]; rfl
     exact ⟨rfl,_,_,p.1,_,Ja,zfh vL eo es,yF,.inr JS⟩
    ·rw [show decide ((m:Int) < (ys.length:Nat))=false from Qz (by omega)];refine iteT (bad ?_);show (if 0<=(m:Int) then (t.2.ps[(m:Int).toNat]?).map (·.1) else none)=_;rw [if_pos h0,Int.toNat_natCast,List.getElem?_eq_none (by omega)]; rfl
   ·rw [Qz h0];refine iteF ⟨_,Ja,iteT (bad ?_)⟩;show (if 0<=n then (t.2.ps[n.toNat]?).map (·.1) else none)=_;rw [if_neg h0]
  ·refine ⟨_,Ja,_,n,b1,b2,Ja,ty,k1,k2,_,Ja,?_⟩;rw [k3];exact iteT (iteT (bad rfl))
 ·obtain ⟨rfl,tv,rv,t,o4,rfl,vL,YD,h3⟩:=h2;rw [wl,Yh] at vL;refine ⟨_,Ja,q t hnil vL _ _ t0 ?_⟩;rcases h3 with h3 | h3
  ·exact absurd (List.length_eq_zero_iff.mp h3) x1
  ·exact h3
abbrev UX:List Str:=[aa,aZ,"pair"]
theorem tO:FnScope UX [aa,aZ] (defScope E6):=fS
theorem zie (B:BI mg) (F:Fun K fU fU E6 f fd):FnOk P w K mg base CX0 (1) f fd [aa,aZ] (V3 K):=by
 refine F.ok tO (fun vs H Q E h=>?_) (fun _ A _ _ H vs Q E hr h=>?_)
 ·obtain ⟨v,u,g,t,m,rfl,_⟩:=h
  rfl
 obtain ⟨v,u,g,t,m,rfl,hv,hu,⟨C,go⟩,gd,gl,tm,q⟩:=h;have bq:=bh hr;refine ⟨_,Qe (Qj (Kn Ki PySem.F.slot_list_index PySem.F.type_list_index (Qh (by show A.units+3+196 < cLine; omega)) (pe_lc (own:=[("pair",2)]) (g:=(gName 2)) (tt:=tYes) (te:=(tOp (rIxT K) (tVar 2) (tC (.int 0)))) rfl tO.nd (pi_tup (pv 0)) (blkOk_by (N:=UX) (sc:=defScope E6) (by decide +kernel)) (fun _ _ _ _ _=>(pg_name (i:=2) tO.nd rfl (.inl rfl))) (fun _ _ _ _ _=>pts_nil) (fun _ _ _ _ _=>(Qm Ql (pv 2) Qg (fun _ _=>rfl)))) (Qa (pv 1) Qb))),?_⟩;have iV:=sizeLine_eq;obtain ⟨a,xs,rfl,hs,hb⟩:=pz hv;have xl:=hb.length;obtain ⟨n1,o1,_,_⟩:=Gr.bE go tm;have td:t.2.deep < g.deep:=g.aA (t,m) tm;have Js:=Gr.pos_at go tm;refine ⟨_,Ja,a,Ja,⟨xs,hs⟩,fun D nD=>?_⟩;refine Nz (walk_tup (xs:=xs)) [] nD (by simp) (by omega) (fun i us H2=>Bears K H2 Gr.aC us ((g.ps.take i).map fun p:Tr × Int=>p.1)) .nil (fun H2 s2=>s2.aP hs) (fun i us H2 H3 s3 h=>h.sb s3 Gr.ay) (fun Pv i x Hq H2 us hi s2 y hR hu aW fin _=>?_) (fun us H2 s2 aW hR A3=>?_)
 ·obtain ⟨rfl,ey⟩:=y;obtain ⟨p,ep,eJ⟩:=hb.get ey;obtain ⟨ad,bd,ux,rfl,h1,h2,h3,h4⟩:=nj eJ;refine ⟨rfl,_,Ja,ad,_,_,_,Ja,Ja,s2.aP h1,atI_nat (j:=0) rfl,fin _ _ SB.refl ?_⟩;rw [Yg,ep,Yj];exact hR.append (.cons (fK s2 _ _ (Gr.ay _) h4) .nil)
 ·rw [xl,Yh] at hR;have hds:DpAll K H2 us ((g.ps.map fun p:Tr × Int=>p.1).map Gr.aC):=NM hR;have e:∀ i:Nat,((g.ps.map fun p:Tr × Int=>p.1).map Gr.aC)[i]?=(g.ps[i]?).map fun p=>Gr.aC p.1:=fun i=>by rw [List.getElem?_map,List.getElem?_map,Option.map_map]; rfl
  refine ⟨.inl ⟨rfl,_,SqL.of aW⟩,_,Ja,D,_,Gr.aC t,_,Gr.pos g t,Gr.aC t,Ja,Ja,.lst (SqL.of aW) hds,fK s2 _ _ (Gr.ay _) hu,?_,Gr.An n1 o1 (by omega),?_,?_,fun j z' hj hz=>?_,q _ s2⟩
  ·rw [List.map_map];exact Gr.yq fun p hp=>by obtain ⟨h1,h2,_⟩:=Gr.bE go hp; exact ⟨h1,h2⟩
  ·rw [e,Js]; rfl
  ·rw [Gr.vk]; simp
  ·rw [e] at hz;obtain ⟨p,ep,rfl⟩:=Kr hz;rw [Gr.vk];refine Qz fun z=>?_;have:=Gr.DB go ep;rw [z] at this;omega
abbrev US:List Str:=[aa,"found",wa,"pair",a7]
theorem kF:FnScope US [aa] (defScope Fe):=fS
theorem zco {ps:List Str}:FnOk P w K mg base CX0 k f fd ps (Fw K 0):=BM fun vs H Q E ⟨v,g,_,_,h,_⟩=>by omega
theorem zi1 (B:BI mg) (zN:Got P w K mg base cu [aa] (n) (Fw K n)) (F:Fun K cu cu Fe f fd):FnOk P w K mg base CX0 (n+1) f fd [aa] (Fw K (n+1)):=by
 refine F.ok kF (fun vs H Q E h=>?_) (fun _ A _ _ H vs Q E hr h=>?_)
 ·obtain ⟨v,g,rfl,_⟩:=h
  rfl
 obtain ⟨v,g,rfl,hv,hd,YT,hp,q⟩:=h;have bq:=bh hr;refine ⟨_,Qc (ps_set (i:=1) kF.nd rfl (.inl rfl) (pe_lst Qb))
  (Qc (ps_for PassesOwn.never rfl (zdc rfl B.enumerate (pv 0)) (pg_tup rfl (Qi (pg_name (i:=2) kF.nd rfl (.inr rfl)) (Qi (pg_name (i:=3) kF.nd rfl (.inl rfl)) pgs_nil)))
   (Qc (Kf (Kn Ki PySem.F.slot_list_append PySem.F.type_list_append mt_append (pv 1) (Qa (Ka (Qa (pv 2) Qb)) Qb)))
  (Qe (Kf (Kn Ki PySem.F.slot_list_extend PySem.F.type_list_extend mt_extend (pv 1) (Qa (pe_lc (own:=[(a7,4)]) (g:=(gName 4)) (tt:=tYes) (te:=(tOp (U5 K) (tTup (tCons (tVar 2) tNil)) (tVar 4))) rfl kF.nd (pi_list (bc zN (Hm hr) rfl (Qa (Qm Ql (Qm Ql (pv 3) Qg (fun _ _=>rfl)) Qg (fun _ _=>rfl)) Qb))) (blkOk_by (N:=US) (sc:=defScope Fe) (by decide +kernel)) (fun _ _ _ _ _=>(pg_name (i:=4) kF.nd rfl (.inl rfl))) (fun _ _ _ _ _=>pts_nil) (fun _ _ _ _ _=>(pe_op Aj (Ka (Qa (pv 2) Qb)) (pv 4)))) Qb))))))
  (Qe (Qj (pv 1)))),?_⟩
 obtain ⟨a,xs,rfl,hs,hb⟩:=pz hv;have bl:=hb.length;have Rm:=g.mP 0;refine ⟨(Z0),fun D hD=>?_⟩;refine ⟨_,Ja,a,xs,Ja,(Jb hD _).aP hs,?_⟩;refine for_it (zbc (xs:=xs)) (fun i σ H2=>SB [D] H H2/\∃ us o2 o3,σ=[some (.ref a),some (.ref D),o2,o3,none]/\H2 D=some (.lst us)/\Bears K H2 wc us ((Gr.aks (g.ps.take i) 0).map (·.1))) ⟨SB.new hD _,[],none,none,Ja,Qt,.nil⟩ (fun i σ H2 hi h2=>(h2.1.drop hD).aP hs) (fun i x σ H2 H' hi h2 y=>?_) (fun σ H2 h2=>?_)
 ·obtain ⟨s2,us,o2,o3,rfl,aW,bY⟩:=h2;obtain ⟨T,e1,e2,rfl,hT,rfl,TH,TF⟩:=y;have Bh:e1=.int (i:Nat):=(Yd TH).symm;subst Bh;obtain ⟨p,ep,eJ⟩:=hb.get TF;have pm:=Qu ep;obtain ⟨ad,td,ux,rfl,fA,lC,hV,_⟩:=nj eJ;have t3:=SB.new (ps:=[D]) hT (.tup [.int (i:Nat),.ref ad]);have bW:(upd H2 T (.tup [.int (i:Nat),.ref ad])) D=some (.lst us):=by rw [upd_ne (ne_of_none aW hT)]; exact aW
  have sy:SqT K (upd H2 T (.tup [.int (i:Nat),.ref ad])) T [.int (i:Nat),.ref ad]:=SqT.of Qt;have s3:=s2.trans t3;have gI:=bY.sb t3 wg;generalize hH3:upd H2 T (.tup [.int (i:Nat),.ref ad])=H3 at t3 bW sy s3 gI;have ul:=gI.length;rw [Ye] at ul;have pd:=g.aA p pm;have pp:=g.bA p pm;have Ou:g.ak 0=Gr.aks (g.ps.take i) 0++Gr.CK p i++Gr.aks (g.ps.drop (i+1)) (i+1):=by
   rw [Gr.zq]
   conv=>lhs; rw [<- List.take_append_drop (i+1) g.ps]
   rw [Gr.jx,Gr.sM ep,Kx,Nat.min_eq_left (by omega),Nat.zero_add]
  have hlen:=congrArg List.length Ou;rw [Yf,Yf] at hlen;have hP:(Gr.CK p i).length=1+p.1.2.parts:=by
   unfold Gr.CK;rw [Yk,Ye,Gr.mP]; omega
  refine ⟨T,_,Ja,sy,Ja,_,_,Ja,_,_,Ja,Ja,?_⟩;refine ⟨_,Ja,.inl ⟨rfl,_,SqL.of bW⟩,_,Ja,(Z1),fun t ht=>?_⟩;have t4:=SB.new (ps:=[D]) ht (.tup [.int (i:Nat)]);have jt:(upd H3 t (.tup [.int (i:Nat)])) D=some (.lst us):=by rw [upd_ne (ne_of_none bW ht)]; exact bW
  refine ⟨D,us,_,Ja,Ja,jt,xE (by omega),?_⟩;have t5:=SB.set (ps:=[D]) jt (by simp) (.lst (us++[.ref t]));have eW:(upd (upd H3 t (.tup [.int (i:Nat)])) D (.lst (us++[.ref t]))) D=some (.lst (us++[.ref t])):=Qt;have Em:=Bears.append ((gI.sb t4 wg).sb t5 wg) (.cons (Nr (p:=[i]) (t5.aP (SqT.of Qt))) .nil);have s5:=(s3.trans t4).trans t5;generalize hH5:upd (upd H3 t (.tup [.int (i:Nat)])) D (.lst (us++[.ref t]))=H5 at t5 eW Em s5;have zX:=s5.drop hD;refine ⟨_,Ja,.inl ⟨rfl,_,SqL.of eW⟩,?_⟩;refine ⟨_,Ja,ad,_,_,_,Ja,Ja,zX.aP fA,atI_nat (j:=0) rfl,td,_,_,_,Ja,Ja,zX.aP lC,atI_nat (j:=1) rfl,_,p.1.2,Ja,hV.sb zX,by omega,by omega,by omega,fun D2 N1 H6 s6 FY i4 El=>?_⟩;have S5:=s6.keep _ _ eW aL;have vl:=El.length;rw [Ye] at vl;have pal:=p.1.2.mP 0;refine ⟨D2,Ja,⟨_,SqL.of i4⟩,fun L hL=>?_⟩;refine tu (walk_list (xs:=N1)) hL (by have:=xE (n:=N1.length) (by omega); omega) (fun j ws H7=>Bears K H7 wc ws (((p.1.2.ak 0).take j).map fun x:Pl × Str=>i::x.1)) .nil (fun H7 s7=>s7.fu aL (SqL.of i4)) (fun _ _ _ _ e h=>h.sb e wg) (fun Pv j z Hq H7 ws hj s7 yz hR hw fin _=>?_) (fun ws H7 s7 hL7 hR hw=>?_)
  ·obtain ⟨rfl,ez⟩:=yz;obtain ⟨pl,CG,fc⟩:=El.get ez;rw [List.getElem?_map] at CG;obtain ⟨x,ex,rfl⟩:=Kr CG;obtain ⟨pa,rfl,lE⟩:=NG fc;have X3:=p.1.2.qB 0 x (Qu ex);refine ⟨rfl,?_⟩;refine ⟨_,Ja,(Z1),fun t ht=>?_⟩;have t8:=Jb ht (.tup [.int (i:Nat)]);refine ⟨_,Ja,t,pa,_,_,Ja,Ja,SqT.of Qt,t8.aP (s7.aP lE),?_,fun c H8 s8 hc=>?_⟩
   ·rw [Ye,Yi];have:=Fy (n:=1+x.1.length) (by omega);omega
   refine fin _ _ (t8.trans s8) ?_;rw [Yg,ex,Option.toList_some,Yj];exact Bears.append ((hR.sb t8 wg).sb s8 wg) (.cons (Nr (p:=i::x.1) hc) .nil)
  ·rw [vl,Yh] at hR;have wl:=hR.length;rw [Ye] at wl;have xO:=s7.keep _ _ S5 aL;refine ⟨D,L,_,_,Ja,Ja,xO,hL7,?_,?_⟩
   ·rw [Yf,Yi];have:=Fy (n:=us.length+1+ws.length) (by omega);omega
   have t8:=SB.set (ps:=[D]) xO (by simp) (.lst (us++[.ref t]++ws));refine ⟨((s5.trans s6.nil).trans s7.nil).trans t8,_,_,_,Ja,Qt,?_⟩;rw [Gr.sM ep,Yj];show Bears _ _ _ _ (_++([i]::((p.1.2.ak 0).map fun x=>(i::x.1,x.2)).map (·.1)));rw [List.map_map,show ∀ A B:List Pl,A++[i]::B=A++[[i]]++B from fun A B=>by simp];exact Bears.append (((Em.sb s6 wg).sb s7 wg).sb t8 wg) (hR.sb t8 wg)
 ·obtain ⟨s2,us,o2,o3,rfl,aW,bY⟩:=h2;rw [bl,Yh,<- Gr.zq] at bY;exact ⟨_,Ja,q D us H2 (s2.drop hD) hD aW bY⟩
abbrev ZF:List Str:=[af,aa,a7,aR,aF,"kind","held","told","left","changed"]
theorem kD:FnScope ZF [af,aa,a7,aR,aF] (defScope HI):=fS
theorem zfl {dP ae ai fI dH dG:Addr} (B:BI mg) (dO:Own K mg "NoPlace" dP) (lh:GotX P w K mg base bQ [af,aa] (72) (Iy K ae ai)) (zB:GotX P w K mg base hY [aa,a7] (2) (NS K dP)) (Mo:GotX P w K mg base j6 [af,"kind",aR] (6) (Wy K ae fI)) (MO:GotX P w K mg base dv [aq] (2) (WG K dH)) (zC:Got P w K mg base gJ [af,aa,a7,ph,aF] (70) (FI K ae 64)) (ME:Got P w K mg base uZ [aR,aF] (3) (VJ K)) (MQ:GotX P w K mg base d8 [aa] (72) (Xh K dG)) (F:Fun K ng ng HI f fd):FnOk P w K mg base (L2.CX P w) (74) f fd [af,aa,a7,aR,aF] (Ij K ae dP fI dH dG):=by
 refine F.okX kD (fun vs H Q E h=>?_) (fun _ A _ _ H vs Q E hr h=>?_)
 ·obtain ⟨v,w,x,y,a,b,g,D,xs,os,ro,so,rfl,_⟩:=h
  rfl
 obtain ⟨v,w,x,y,a,b,g,D,xs,os,ro,so,rfl,⟨hv,ok⟩,⟨hw,go,gd,gp,gn⟩,⟨ha,RW⟩,hx,hy,sb,qP,q⟩:=h;have bq:=bh hr;refine ⟨_,Qc (Kf (jb lh (Hm hr) rfl (takes_of rfl rfl rfl rfl) (Qa (pv 0) (Qa (pv 1) Qb))))
  (Qc (ps_asg (jb zB (Hm hr) rfl (takes_of rfl rfl rfl rfl) (Qa (pv 1) (Qa (pv 2) Qb))) (pg_tup rfl (Qi (pg_name (i:=5) kD.nd rfl (.inl rfl)) (Qi (pg_name (i:=6) kD.nd rfl (.inl rfl)) pgs_nil))))
  (Qc (Qr (pt_truth (pv 6) (by intro _; rfl)) (Qe (ps_raise rfl (takes_of rfl rfl rfl rfl) (pmk_own PySem.F.excBase_ValueError dO.q dO.gC dO.k (raises_own dO.s dO.t) rfl))) pss_nil)
  (Qc (ps_set (i:=7) kD.nd rfl (.inl rfl) (jb Mo (Hm hr) rfl (takes_of rfl rfl rfl rfl) (Qa (pv 0) (Qa (pv 5) (Qa (pv 3) Qb)))))
  (Qc (Kf (jb MO (Hm hr) rfl (takes_of rfl rfl rfl rfl) (Qa (pv 4) Qb)))
  (Qc (ps_asg (bc zC (Hm hr) rfl (Qa (pv 0) (Qa (pv 1) (Qa (pv 2) (Qa (bc ME (Hm hr) rfl (Qa (pv 7) (Qa (pv 4) Qb))) (Qa (pv 4) Qb)))))) (pg_tup rfl (Qi (pg_name (i:=8) kD.nd rfl (.inl rfl)) (Qi (pg_name (i:=9) kD.nd rfl (.inl rfl)) pgs_nil))))
  (Qc (Kf (jb MQ (Hm hr) rfl (takes_of rfl rfl rfl rfl) (Qa (pv 8) Qb)))
  (Qe (Qj (Ka (Qa (pv 8) (Qa (pv 9) Qb))))))))))),?_⟩
 have iV:=sizeLine_eq;have b8:=ok.len;have bnl:b.names.length=b.length:=List.length_map ..;have yh:∀ n,LeastOut (fun m=>m ∉ b.names) g n->False:=fun n hn=>by
  obtain ⟨y,hy,e⟩:=Qx hn.mem;exact absurd (e ▸ gn y hy) hn.out
 refine ⟨_,Ja,_,Ja,v,w,b,g,b.names,Ja,hv,hw,by omega,by omega,by omega,gn,by omega,fun _ H1 s1=>?_,fun n hn=>(yh n hn).elim⟩;have xsl:=RW.length;refine ⟨_,Ja,_,Ja,w,g,a,xs,os,Ja,hw.sb s1,s1.aP ha,RW.sb s1,fun t sh vL vt H2 s2 ht=>?_,fun Sw H2 s2=>qP (fun pl k e hb=>?_) _ (s1.trans s2)⟩
 case refine_2 =>
  have h1:=Gr.qA "" hb;rw [<- e] at h1;rcases Sw with h | h
  ·rw [e] at h;exact Gr.qz hb (by simpa [mc] using h)
  ·rw [h] at h1; cases h1
 obtain ⟨pl,CG,JZ⟩:=Gr.vA sh vL;cases (ht:Dp K H2 vt (.tuple [.str t.1,t.2.enc])) with
 | @tup ad tD _ qO hda =>
 cases hda with
 | cons g1 hda =>
 cases hda with
 | cons g2 hda =>
 cases hda;cases g1;rename_i hd;have JK:GA K H2 hd t.2:=g2;obtain ⟨ga,gs,rfl,hV,xJ⟩:=pz JK;have KG:=xJ.length;have iW:=s1.trans s2;refine ⟨ad,_,Ja,qO,Ja,_,_,Ja,_,_,Ja,Ja,?_⟩;by_cases hnil:t.2=.nil
 case neg =>
  have Se:gs ≠ []:=fun z=>by
   rw [z] at KG;cases e:t.2 with
   | nil=>exact hnil e
   | cons _ _ _ _=>rw [e] at KG; simp [Gr.ps] at KG
  refine ⟨_,rfl,true,.inr (.inl ⟨gs,hV,by cases gs with | nil=>exact absurd rfl Se | cons _ _=>rfl⟩),iteT (qP (fun BX k e hb=>?_) _ iW)⟩;have h1:=Gr.qA "" hb;rw [<- e,vL] at h1;exact hnil (by rw [Yd h1])
 have hb:=JZ hnil;have Se:gs=[]:=by
  rw [hnil] at KG;exact List.length_eq_zero_iff.mp KG
 subst Se;refine ⟨_,Ja,false,.inr (.inl ⟨[],hV,Ja⟩),iteF ?_⟩;have kn:=Gr.eS gn hb;obtain ⟨kd,eg⟩:=Bk.dW kn;obtain ⟨km,_⟩:=Bk.get_some eg;obtain ⟨_,r4,rr⟩:=ok.kd kd km;obtain ⟨q1,q2⟩:=q pl t.1 kd CG hb eg;refine ⟨_,Ja,_,Ja,_,Ja,v,x,b,t.1,kd,ro,Ja,hv.dI iW,ok,eg,hx.sb iW,fun i r er hr yv H3 s3 hyr=>?_,fun hno H3 s3=>q1 hno _ (iW.trans s3)⟩;obtain ⟨q3,q4⟩:=q2 i r er hr;have sV:=iW.trans s3;refine ⟨_,rfl,y,so,rfl,hy.sb sV,fun ⟨n,en,n0⟩ H4 s4=>?_,fun R4 H4 s4=>q3 R4 _ (sV.trans s4)⟩;subst en;have ey:=hy.int;subst ey;obtain ⟨q5,q6⟩:=q4 n rfl n0;have N9:=sV.trans s4;have rJ:=VT (fun r hr=>(rr r hr).1) hr;have nb:=sb n rfl;subst CG;have Tu:=RW.ints;subst Tu;refine ⟨_,Ja,_,Ja,_,Ja,_,Ja,_,Ja,yv,r,n,Ja,fK s4 _ _ (Ru.ag _) hyr,rJ,n0,nb,fun fv H5 s5 hf=>?_⟩;have N8:=N9.trans s5;have IS:=Gr.gG hb;have go2:=Gr.qu rJ n0;have gd2:=Gr.yN rJ n;have gp2:=Gr.oG rJ n;refine ⟨_,Ja,v,w,fv,a,n,D,1000000001*n+2000000002,b,g,Gr.hO r n,pl,t.1,Ja,⟨hv.dI N8,ok⟩,⟨hw.sb N8,go,gd,gp,gn⟩,⟨hf,by omega,go2,gd2,gp2⟩,N8.aP ha,hb,by omega,n0,fun tt u pt H6 s6 htt hu hpt=>?_⟩;refine ⟨tt,_,Ja,htt,Ja,_,_,Ja,_,_,Ja,Ja,?_⟩;have d1:=Gr.jH (b:=b) (n:=n) (fr:=Gr.hO r n) hb;have p1:=Gr.og (b:=b) (n:=n) (fr:=Gr.hO r n) hb;have p2:pl.length*(g.parts+1)<=60*2001:=Nat.mul_le_mul (by omega) (by omega);have XS:=N8.trans s6;refine ⟨_,Ja,u,_,Ja,hu,by omega,by omega,fun Aa H7 s7=>?_,fun uD H7 s7=>q5 uD _ (XS.trans s7)⟩;refine ⟨_,Ja,_,Ja,Z2,fun T nT=>?_⟩;have t8:=Jb nT (.tup [u,pt]);have XR:=XS.trans s7;exact q6 Aa T u pt _ (XR.trans t8) (XR.kh _ nT) (SqT.of Qt) ((hu.sb s7).sb t8) (fK (s7.trans t8) _ _ (wg _) hpt)
abbrev zkp:List Str:=[af,"kind",aR,"rows"]
theorem xY:FnScope zkp [af,"kind",aR] (defScope GJ):=fS
theorem zh7 {fI ae ai:Addr} (B:BI mg) (fG:Own K mg "NoRule" fI) (sP:GotX P w K mg base a5 [af,aI] (5) (NO K ae ai)) (zH:Got P w K mg base dR [aq] (1) (HZ K)) (F:Fun K j6 j6 GJ f fd):FnOk P w K mg base (L2.CX P w) (6) f fd [af,"kind",aR] (Wy K ae fI):=by
 refine F.okX xY (fun vs H Q E h=>?_) (fun _ A _ _ H vs Q E hr h=>?_)
 ·obtain ⟨v,x,b,k,kd,o,rfl,_⟩:=h
  rfl
 obtain ⟨v,x,b,k,kd,o,rfl,hv,ok,eg,hx,q,qE⟩:=h;have bq:=bh hr;refine ⟨_,Qc (ps_set (i:=3) xY.nd rfl (.inl rfl) (jb sP (Hm hr) rfl (takes_of rfl rfl rfl rfl) (Qa (pv 0) (Qa (pv 1) Qb))))
  (Qc (Qr (PW.pt (Kk (Qp (Qo (bc zH (Hm hr) rfl (Qa (pv 2) Qb)))) (pw_or1 (Qp (pt_chain op_le op_lt Qg (pv 2) (Qs call_len_seq rfl B.len PySem.boot_len (Qa (pv 3) Qb))))))) (Qe (ps_raise rfl (takes_of rfl rfl rfl rfl) (pmk_own PySem.F.excBase_ValueError fG.q fG.gC fG.k (raises_own fG.s fG.t) rfl))) pss_nil)
  (Qe (Qj (Qm ix_list (pv 3) (pv 2) (fun _ _=>rfl))))),?_⟩
 have iV:=sizeLine_eq;have r4:∀ k ∈ b,k.rs.length<=4:=fun k hk=>(ok.kd k hk).2.1;have k4:=r4 kd (Bk.get_some eg).1;refine ⟨_,Ja,_,Ja,v,b,k,Ja,hv,by have:=ok.len; omega,fun k hk=>by have:=r4 k hk; omega,fun oq e l us H1 s1 nl hl hb=>?_,fun z=>by rw [eg] at z; cases z⟩;rw [eg] at e;cases e;have ul:=hb.length;rw [Yk] at ul;rcases hx with ⟨i,rfl,rfl⟩ | ⟨rfl,n,b1,b2,ty,k1,k2,k3⟩
 ·refine ⟨_,rfl,_,"int",true,false,rfl,.base (.int i),by decide +kernel,fun _=>by decide +kernel,true,rfl,iteF ?_⟩;refine ⟨_,Ja,_,_,Ja,Ja,_,Ja,?_⟩;by_cases h0:0<=i
  ·rw [Ya h0];refine iteT ⟨_,Ja,l,us,Ja,.inl (SqL.of hl),_,_,Ja,Ja,_,Ja,?_⟩;obtain ⟨m,rfl⟩:∃ m:Nat,i=(m:Int):=⟨i.toNat,by omega⟩;by_cases h1:m < us.length
   ·rw [show decide ((m:Int) < (us.length:Nat))=true from Ya (by omega)];refine iteF ?_;obtain ⟨y,hy⟩:∃ y,us[m]?=some y:=⟨_,Kp h1⟩;obtain ⟨r,er,hr⟩:=hb.get hy;exact ⟨_,Ja,_,Ja,l,us,_,_,Ja,Ja,SqL.of hl,atI_nat hy,q m r rfl er y H1 s1 hr⟩
   ·rw [show decide ((m:Int) < (us.length:Nat))=false from Qz (by omega)];refine iteT (qE (fun j e=>?_) _ s1);have e:(m:Int)=(j:Int):=Yd e;exact List.getElem?_eq_none (by rw [Yk]; omega)
  ·rw [Qz h0];refine iteF ⟨_,Ja,iteT (qE (fun j e=>?_) _ s1)⟩;have e:i=(j:Int):=Yd e;omega
 ·refine ⟨_,Ja,x,n,b1,b2,Ja,C7 s1 (fun _ _=>aL) ty,k1,k2,_,Ja,?_⟩;rw [k3];exact iteT (qE (fun j e=>nomatch e) _ s1)
abbrev zlw:List Str:=[aq]
theorem zhp:FnScope zlw [aq] (defScope Hn):=fS
theorem zh8 {dH:Addr} (B:BI mg) (dF:Own K mg "NoNumber" dH) (zH:Got P w K mg base dR [aq] (1) (HZ K)) (F:Fun K dv dv Hn f fd):FnOk P w K mg base (L2.CX P w) (2) f fd [aq] (WG K dH):=by
 refine F.okX zhp (fun vs H Q E h=>?_) (fun _ A _ _ H vs Q E hr h=>?_)
 ·obtain ⟨v,o,rfl,_⟩:=h
  rfl
 obtain ⟨v,o,rfl,hv,q1,q2⟩:=h;have bq:=bh hr;refine ⟨_,Qe (Qr (PW.pt (Kk (Qp (Qo (bc zH (Hm hr) rfl (Qa (pv 0) Qb)))) (pw_or1 (pt_cmpR op_lt (pv 0) Qg (nomark _))))) (Qe (ps_raise rfl (takes_of rfl rfl rfl rfl) (pmk_own PySem.F.excBase_ValueError dF.q dF.gC dF.k (raises_own dF.s dF.t) rfl))) pss_nil),?_⟩;rcases hv with ⟨i,rfl,rfl⟩ | ⟨rfl,n,b1,b2,ty,k1,k2,k3⟩
 ·refine ⟨_,rfl,_,"int",true,false,rfl,.base (.int i),by decide +kernel,fun _=>by decide +kernel,true,rfl,iteF ?_⟩;refine ⟨_,Ja,_,_,Ja,Ja,_,Ja,?_⟩;by_cases h:i < 0
  ·rw [Ya h];exact iteT (q2 (fun n e=>by cases e; exact h) _ SB.refl)
  ·rw [Qz h];exact iteF (q1 ⟨i,Ja,by omega⟩ _ SB.refl)
 ·refine ⟨_,Ja,_,n,b1,b2,Ja,ty,k1,k2,_,Ja,?_⟩;rw [k3];exact iteT (q2 (fun n e=>nomatch e) _ SB.refl)
abbrev ZV:List Str:=[aa]
theorem zg9:FnScope ZV [aa] (defScope GG):=fS
theorem zh4 {dG:Addr} (B:BI mg) (dE:Own K mg "TooGreat" dG) (cK:∃ t,mg "MOST_PARTS_STANDING"=some (.int (2000) t)) (cQ:∃ t,mg "MOST_DEEP_STANDING"=some (.int (60) t)) (Ms:Got P w K mg base ig [aa] (71) (Xa K 70)) (MN:Got P w K mg base fY [aa] (70) (FG K 70)) (F:Fun K d8 d8 GG f fd):FnOk P w K mg base (L2.CX P w) (72) f fd [aa] (Xh K dG):=by
 refine F.okX zg9 (fun vs H Q E h=>?_) (fun _ A _ _ H vs Q E hr h=>?_)
 ·obtain ⟨v,g,rfl,_⟩:=h
  rfl
 obtain ⟨v,g,rfl,hv,gd,gp,q,qE⟩:=h;obtain ⟨pG,hJ⟩:=cK;obtain ⟨qM,iE⟩:=cQ;have bq:=bh hr;refine ⟨_,Qe (Qr (PW.pt (Kk (pt_cmpR op_gt (bc Ms (Hm hr) rfl (Qa (pv 0) Qb)) (pe_glob (v:=.int (2000)) rfl hJ ⟨_,Ja⟩) (nomark _)) (pw_or1 (pt_cmpR op_gt (bc MN (Hm hr) rfl (Qa (pv 0) Qb)) (pe_glob (v:=.int (60)) rfl iE ⟨_,Ja⟩) (nomark _))))) (Qe (ps_raise rfl (takes_of rfl rfl rfl rfl) (pmk_own PySem.F.excBase_ValueError dE.q dE.gC dE.k (raises_own dE.s dE.t) rfl))) pss_nil),?_⟩;refine ⟨_,Ja,v,g,Ja,hv,by omega,gp,fun H1 s1=>?_⟩;refine ⟨_,_,Ja,Ja,_,Ja,?_⟩;by_cases h1:g.parts<=2000
 ·rw [show decide ((2000:Int) < (g.parts:Nat))=false from Qz (by omega)];refine iteF ⟨_,Ja,v,g,Ja,hv.sb s1,by omega,gp,fun H2 s2=>?_⟩;refine ⟨_,_,Ja,Ja,_,Ja,?_⟩;by_cases h2:g.deep<=60
  ·rw [show decide ((60:Int) < (g.deep:Nat))=false from Qz (by omega)];exact iteF (q ⟨h1,h2⟩ _ (s1.trans s2))
  ·rw [show decide ((60:Int) < (g.deep:Nat))=true from Ya (by omega)];exact iteT (qE (fun z=>h2 z.2) _ (s1.trans s2))
 ·rw [show decide ((2000:Int) < (g.parts:Nat))=true from Ya (by omega)];exact iteT (qE (fun z=>h1 z.1) _ s1)
abbrev ZD:List Str:=[aR,aF,"once","each"]
theorem tS:FnScope ZD [aR,aF] (defScope Hz):=fS
theorem zhx (B:BI mg) (vY:Got P w K mg base fO [aY,ao] (2) (QD K)) (Ml:Got P w K mg base uW [aa,aX] (1) (VP K)) (F:Fun K uZ uZ Hz f fd):FnOk P w K mg base CX0 (3) f fd [aR,aF] (VJ K):=by
 refine F.ok tS (fun vs H Q E h=>?_) (fun _ A _ _ H vs Q E hr h=>?_)
 ·obtain ⟨v,r,n,rfl,_⟩:=h
  rfl
 obtain ⟨v,r,n,rfl,hv,ok,n0,nb,q⟩:=h;have bq:=bh hr;refine ⟨_,Qc (ps_asg (pv 0) (pg_tup rfl (Qi (pg_name (i:=2) tS.nd rfl (.inl rfl)) (Qi (pg_name (i:=3) tS.nd rfl (.inl rfl)) pgs_nil))))
  (Qe (Qj (bc vY (Hm hr) rfl (Qa (pv 2) (Qa (bc Ml (Hm hr) rfl (Qa (pv 3) (Qa (pv 1) Qb))) Qb))))),?_⟩
 have iV:=sizeLine_eq;cases (hv:Dp K H v (.tuple [r.1.enc,r.2.enc])) with
 | @tup ad tD _ qO hda =>
 cases hda with
 | cons g1 hda =>
 cases hda with
 | cons g2 hda =>
 cases hda;rename_i v1 v2;have h1:GA K H v1 r.1:=g1;have h2:GA K H v2 r.2:=g2;obtain ⟨o1,o2,pp⟩:=ok;have d1:=Gr.eO r.1;have d2:=Gr.eO r.2;have l1:=r.1.aN;have l2:=r.2.aN;refine ⟨_,Ja,ad,_,Ja,qO,Ja,_,_,Ja,_,_,Ja,Ja,?_⟩;refine ⟨_,Ja,_,Ja,_,Ja,v2,r.2,n,Ja,h2,by omega,fun p hp=>?_,n0,?_,fun x H2 s2 hx=>?_⟩
 ·obtain ⟨_,_,a,c⟩:=Gr.bE o2 hp;exact ⟨by omega,Int.lt_of_lt_of_le c (by decide +kernel)⟩
 ·exact Int.lt_of_lt_of_le nb (by decide +kernel)
 have hm:=Gr.gQ o2 (by omega) n0;have e1:=Gr.Aq r.2 n;have e2:=Gr.gq r.2 n;have le:=Int.mul_nonneg (show (0:Int)<=1000000001 by omega) n0;exact ⟨_,_,r.1,Gr.gS r.2 n,Ja,h1.sb s2,hx,⟨_,o1.mono (C:=1000000001*n+1000000001) (by omega),hm⟩,by omega,by omega,by omega,by omega,fun y H3 s3 hy=>q y H3 (s2.trans s3) hy⟩
abbrev zla:List Str:=[af,"kind",aF]
theorem zio:FnScope zla [af,"kind",aF] (defScope HD):=fS
theorem zgl {ae ai:Addr} (B:BI mg) (zL:z1w P w K mg base ae "spreads" [aw,aI] (4) (IB K ae ai)) (F:Fun K dq dq HD f fd):FnOk P w K mg base CX0 (5) f fd [af,"kind",aF] (UW K ae):=by
 refine F.ok zio (fun vs H Q E h=>?_) (fun _ A _ _ H vs Q E hr h=>?_)
 ·obtain ⟨v,b,k,n,rfl,_⟩:=h
  rfl
 obtain ⟨v,b,k,n,rfl,hv,bl,hk,q⟩:=h;refine ⟨_,Qc (Qr (Qo (Wg zL (Hm hr) (pv 0) (Qa (pv 1) Qb))) (Qe (Qj (pv 2))) pss_nil)
  (Qe (Qj Qg)),?_⟩
 obtain ⟨kd,eg⟩:=Bk.dW hk;obtain ⟨va,wm,FU,FR,rfl,xa⟩:=hv.at;refine ⟨_,Ja,va,wm,_,Ja,xa,Ja,_,Ja,_,b,k,Ja,hv,bl,fun oq e H1 s1=>?_,fun z=>by rw [eg] at z; cases z⟩;have hq:=q H1 s1;unfold Bk.far at hq;rw [e] at hq;dsimp only at hq;refine ⟨_,Ja,?_⟩;cases hw:oq.w with
 | true=>rw [hw,if_pos rfl] at hq; exact iteT ⟨_,Ja,hq⟩
 | false=>rw [hw,if_neg (by decide)] at hq; exact iteF hq
abbrev zlz:List Str:=[af,aa,a7,ph,aF,aZ,"left","kind","held",Nk,"path","changed","row"]
theorem gU:FnScope zlz [af,aa,a7,ph,aF] (defScope HJ):=fS
theorem zd3 {ae:Addr} {ps:List Str}:FnOk P w K mg base CX0 k f fd ps (FI K ae 0):=BM fun vs H Q E ⟨v,w,fv,a,n,D,F,b,g,fr,pl,k,_,_,_,_,_,_,h,_⟩=>by omega
theorem zi5 {m:Nat} {ae:Addr} (B:BI mg) (Mj:Got P w K mg base j5 [aa,aZ,aX] (1) (W3 K)) (vY:Got P w K mg base fO [aY,ao] (2) (QD K)) (zC:Got P w K mg base gJ [af,aa,a7,ph,aF] (m+6) (FI K ae m)) (MG:Got P w K mg base dq [af,"kind",aF] (5) (UW K ae)) (Mu:Got P w K mg base fU [aa,aZ] (1) (V3 K)) (F:Fun K gJ gJ HJ f fd):FnOk P w K mg base CX0 (m+7) f fd [af,aa,a7,ph,aF] (FI K ae (m+1)):=by
 refine F.ok gU (fun vs H Q E h=>?_) (fun _ A _ _ H vs Q E hr h=>?_)
 ·obtain ⟨v,w,fv,a,n,D,F,b,g,fr,pl,k,rfl,_⟩:=h
  rfl
 obtain ⟨v,w,fv,a,n,D,F,b,g,fr,pl,k,rfl,⟨hv,ok⟩,⟨hw,go,gd,gp,gn⟩,⟨hf,F1,fo,fd4,fp4⟩,fc,hb,hm,n0,q⟩:=h;have bq:=bh hr;refine ⟨_,Qc (ps_set (i:=5) gU.nd rfl (.inl rfl) (Qm Ql (Qm Ql (pv 1) (Qm Ql (pv 2) Qg (fun _ _=>rfl)) (fun _ _=>rfl)) Qg (fun _ _=>rfl)))
  (Qc (ps_set (i:=6) gU.nd rfl (.inl rfl) (bc Mj (Hm hr) rfl (Qa (pv 1) (Qa (pv 5) (Qa Qg Qb)))))
  (Qc (Qr (pt_cmpR op_eq (Qs call_len_seq rfl B.len PySem.boot_len (Qa (pv 2) Qb)) Qg (nomark _)) (Qe (Qj (Ka (Qa (bc vY (Hm hr) rfl (Qa (pv 6) (Qa (pv 3) Qb))) (Qa (Ka Qb) Qb))))) pss_nil)
  (Qc (ps_asg (pv 5) (pg_tup rfl (Qi (pg_name (i:=7) gU.nd rfl (.inl rfl)) (Qi (pg_name (i:=8) gU.nd rfl (.inl rfl)) pgs_nil))))
  (Qc (ps_asg (bc zC (Hm hr) rfl (Qa (pv 0) (Qa (pv 8) (Qa (pe_slice FF (pv 2) (po_some Qg) po_none) (Qa (pv 3) (Qa (pv 4) Qb)))))) (pg_tup rfl (Qi (pg_name (i:=9) gU.nd rfl (.inl rfl)) (Qi (pg_name (i:=10) gU.nd rfl (.inl rfl)) pgs_nil))))
  (Qc (ps_set (i:=11) gU.nd rfl (.inl rfl) (Ka (Qa (pv 7) (Qa (pv 9) Qb))))
  (Qc (ps_set (i:=12) gU.nd rfl (.inl rfl) (bc vY (Hm hr) rfl (Qa (pv 6) (Qa (Ka (Qa (Ka (Qa (pv 11) (Qa (pe_op Ko Qg (bc MG (Hm hr) rfl (Qa (pv 0) (Qa (pv 7) (Qa (pv 4) Qb))))) Qb))) Qb)) Qb))))
  (Qe (Qj (Ka (Qa (pv 12) (Qa (pe_op Aj (Ka (Qa (bc Mu (Hm hr) rfl (Qa (pv 12) (Qa (pv 11) Qb))) Qb)) (pv 10)) Qb))))))))))),?_⟩
 have iV:=sizeLine_eq;have b8:=ok.len;obtain ⟨i,r,rfl⟩:∃ i r,pl=i::r:=by
  cases pl with
  | nil=>exact absurd hb (by intro z; cases z)
  | cons i r=>exact ⟨i,r,Ja⟩
 obtain ⟨ga,gs,rfl,hV,xJ⟩:=pz hw;have gl:=xJ.length;have glp:=g.aN;obtain ⟨p,ep⟩:∃ p,g.ps[i]?=some p:=by
  by_cases hr:r=[]
  ·subst hr;obtain ⟨p,e,_⟩:=Gr.cO hb;exact ⟨p,e⟩
  ·obtain ⟨p,e,_⟩:=Gr.bB hr hb;exact ⟨p,e⟩
 have pm:=Qu ep;obtain ⟨n1,o1,_,_⟩:=Gr.bE go pm;have pd:=g.aA p pm;have pp:=g.bA p pm;obtain ⟨vp,evp,eJ⟩:=xJ.at ep;obtain ⟨ad,bd,ux,rfl,h1,h2,h3,h4⟩:=nj eJ;have IS:=Gr.gG hb;have hC:=Gr.mU go pm;have w1:=Gr.fw go (t:=p.1) (m:=1) (by omega);have w2:=Gr.pE g p.1 1;have w3:=Gr.Di g p.1 1;have frl:=fr.aN;refine ⟨_,Ja,_,Ja,a,_,_,_,Ja,Ja,fc,atI_nat (j:=0) rfl,ga,gs,_,_,Ja,Ja,hV,atI_nat evp,ad,_,_,_,Ja,Ja,h1,atI_nat (j:=0) rfl,?_⟩;refine ⟨_,Ja,_,Ja,_,_,g,p.1,1,Ja,hw,h4,⟨D,go,o1⟩,n1,by omega,by omega,by omega,fun left H1 s1 B9=>?_⟩;have Ju:=s1.aP fc;refine ⟨_,Ja,a,_,Ja,.inr Ju,Ja,_,Ja,?_⟩;by_cases hr:r=[]
 ·subst hr;refine iteT ⟨_,Ja,_,Ja,left,fv,Gr.wo g p.1 1,fr,Ja,B9,hf.sb s1,⟨D+F,w1.mono (by omega),fo.mono (by omega)⟩,by omega,by omega,by omega,by omega,fun x H2 s2 hx=>?_⟩;refine ⟨Z0,fun T nT=>?_⟩;have t3:=Jb nT (.tup []);have hT:=qX (K:=K) t3;generalize upd H2 T _=H3 at t3 hT;refine ⟨Z2,fun T2 AL=>?_⟩;have t4:=Jb AL (.tup [x,.ref T]);refine q T2 x (.ref T) _ (((s1.trans s2).trans t3).trans t4) (SqT.of Qt) ?_ ?_
  ·rw [Gr.fq ep]; exact hx.sb (t3.trans t4)
  ·rw [Gr.fq ep]; exact Nr (p:=[]) (t4.aP hT)
 have hlen:decide (V.int (((i::r).map fun n:Nat=>V.int (n:Int)).length:Nat)=V.int 1)=false:=by
  have:=List.length_pos_iff.mpr hr;simp only [Ye,Yk,V.int.injEq];exact Qz (by omega)
 rw [hlen];obtain ⟨p',OQ,bY⟩:=Gr.bB hr hb;have e:=ep.symm.trans OQ;cases e;obtain ⟨kn,pn⟩:=Gr.aE.mp gn p pm;refine iteF ⟨_,Ja,bd,_,Ja,s1.aP h2,Ja,_,_,Ja,_,_,Ja,Ja,?_⟩;refine ⟨_,Ja,_,Ja,_,Ja,_,Ja,a,_,Ja,Ju,fun c H2 s2 hc=>?_⟩;rw [L9,Ky,List.drop_succ_cons,List.drop_zero] at hc;have iX:=s1.trans s2;rw [Yk] at hm IS;refine ⟨_,Ja,_,Ja,v,ux,fv,c,n,D,F,b,p.1.2,fr,r,k,Ja,⟨hv.dI iX,ok⟩,⟨h3.sb iX,o1,by omega,by omega,pn⟩,⟨hf.sb iX,F1,fo,fd4,fp4⟩,hc,bY,by omega,n0,fun t u pt H3 s3 ht hu hq=>?_⟩;obtain ⟨pa,rfl,lE⟩:=NG hq;refine ⟨t,_,Ja,ht,Ja,_,_,Ja,_,_,Ja,Ja,?_⟩;refine ⟨_,Ja,_,Ja,Z2,fun T nT=>?_⟩;have t4:=Jb nT (.tup [.str p.1.1,u]);have hT:=qX (K:=K) t4;generalize upd H3 T _=H4 at t4 hT;have Bi:Dp K H4 (.ref T) (Gr.aC (Gr.chg b n fr r p)):=.tup hT (.cons (.str _) (.cons (hu.sb t4) .nil));have XQ:=s3.trans t4;have tW:=iX.trans XQ;refine ⟨_,Ja,_,Ja,_,Ja,_,Ja,_,Ja,v,b,p.1.1,n,Ja,hv.dI tW,by omega,kn,fun H5 s5=>?_⟩;refine ⟨_,_,Ja,Ja,Z2,fun T2 AL=>?_⟩;have t6:=Jb AL (.tup [.ref T,.int (1+b.far p.1.1 n)]);have tf:=qX (K:=K) t6;generalize upd H5 T2 _=H6 at t6 tf;refine ⟨Z1,fun T3 Rh=>?_⟩;have t7:=Jb Rh (.tup [.ref T2]);have sy:=qX (K:=K) t7;generalize upd H6 T3 _=H7 at t7 sy;have N6:=(s5.trans t6).trans t7;have RX:GA K H7 (.ref T3) (Gr.one (Gr.chg b n fr r p) (1+b.far p.1.1 n)):=Il (bs:=[(Gr.chg b n fr r p,1+b.far p.1.1 n)]) sy (.cons (C9 (t7.aP tf) (fK N6 _ _ (Gr.ay _) Bi)) .nil);obtain ⟨f0,f1⟩:=Bk.ju b p.1.1 n0;have io:=Gr.ku (b:=b) n0 F1 fo o1 bY;have id:=Gr.jH (b:=b) (n:=n) (fr:=fr) bY;have il:=Gr.gG bY;have cd:(Gr.one (Gr.chg b n fr r p) (1+b.far p.1.1 n)).deep<=63:=by
  show max (1+(Gr.stk b n fr r p.1.2).1.deep) 0<=63;omega
 have hso:(Gr.one (Gr.chg b n fr r p) (1+b.far p.1.1 n)).Ok (D+F+n+2):=Gr.me (t:=Gr.chg b n fr r p) n1 io (by omega) (by omega);refine ⟨left,.ref T3,Gr.wo g p.1 1,Gr.one (Gr.chg b n fr r p) (1+b.far p.1.1 n),Ja,((B9.sb s2).sb XQ).sb N6,RX,⟨_,w1.mono (by omega),hso⟩,by omega,cd,by omega,by rw [Gr.md]; simp,fun row H8 s8 Jq=>?_⟩;obtain ⟨⟨D2,ro⟩,m2,rm⟩:=Gr.BC (b:=b) n0 F1 fo go hr ep hb;have rd:(Gr.ze b n fr r g p).deep<=63:=Gr.jF (by omega) cd;have rl:(Gr.ze b n fr r g p).ps.length<=5000:=by
  have h1:=NY (nq (kR Gr.aC) ((Gr.wo g p.1 1).ps++(Gr.one (Gr.chg b n fr r p) (1+b.far p.1.1 n)).ps));rw [(zS _).length_eq,Yf,Gr.md] at h1;show (Gr.kf _ _).ps.length<=_;rw [Gr.tI,Gr.md];unfold xU;simp only [Yk,List.length_nil] at h1;omega
 refine ⟨_,Ja,_,Ja,_,Ja,row,.ref T,Gr.ze b n fr r g p,Gr.chg b n fr r p,m2,Ja,Jq,fK (N6.trans s8) _ _ (Gr.ay _) Bi,⟨D2,ro⟩,rd,rl,rm,fun H9 s9=>?_⟩;refine ⟨Z1,fun T4 nT4=>?_⟩;have rn:=Jb nT4 (.tup [.int (Gr.pos (Gr.ze b n fr r g p) (Gr.chg b n fr r p):Nat)]);have Kh:=qX (K:=K) rn;generalize upd H9 T4 _=Gq at rn Kh;have XP:=((N6.trans s8).trans s9).trans rn;have pl2:=Gr.rB (b:=b) (n:=n) (fr:=fr) bY;refine ⟨_,Ja,T4,pa,_,_,Ja,Ja,Kh,(t4.trans XP).aP lE,by rw [Ye]; simp only [Yk,List.length_nil]; omega,fun c2 Mi x7 mL=>?_⟩;refine ⟨Z2,fun T5 nT5=>?_⟩;have QI:=Jb nT5 (.tup [row,.ref c2]);refine q T5 row (.ref c2) _ (((tW.trans XP).trans x7).trans QI) (SqT.of Qt) ?_ ?_
 ·rw [Gr.c5 ep hr];exact ((((Jq.sb s9).sb rn).sb x7).sb QI)
 ·rw [Gr.c5 ep hr];exact Nr (QI.aP mL)
abbrev zjc:List Str:=[af,aI,"found",aR,"once","each"]
theorem lU:FnScope zjc [af,aI] (defScope GQ):=fS
theorem zhl {ae ai:Addr} (B:BI mg) (EU:z1w P w K mg base ae "rules" [aw,aI] (4) (NI K ae ai)) (CN:Got P w K mg base ie [aI,aR,"word",aa] (21) (W7 K)) (F:Fun K ia ia GQ f fd):FnOk P w K mg base (L2.CX P w) (22) f fd [af,aI] (WU K ae ai):=by
 refine F.okX lU (fun vs H Q E h=>?_) (fun _ A _ _ H vs Q E hr h=>?_)
 ·obtain ⟨v,b,n,rfl,_⟩:=h
  rfl
 obtain ⟨v,b,n,rfl,hv,ok,qk,qE⟩:=h;have bq:=bh hr;refine ⟨_,Qc (ps_set (i:=2) lU.nd rfl (.inl rfl) (pe_lst Qb))
  (Qc (ps_for (passes_of rfl) rfl (zdi rfl B.enumerate (Pz EU (Hm hr) (takes_of rfl rfl rfl rfl) (pv 0) (Qa (pv 1) Qb))) (pg_tup rfl (Qi (pg_name (i:=3) lU.nd rfl (.inl rfl)) (Qi (pg_tup rfl (Qi (pg_name (i:=4) lU.nd rfl (.inl rfl)) (Qi (pg_name (i:=5) lU.nd rfl (.inl rfl)) pgs_nil))) pgs_nil)))
   (Qc (Kf (Kn Ki PySem.F.slot_list_extend PySem.F.type_list_extend mt_extend (pv 2) (Qa (bc CN (Hm hr) rfl (Qa (pv 1) (Qa (pv 3) (Qa pe_str (Qa (pv 4) Qb))))) Qb)))
  (Qe (Kf (Kn Ki PySem.F.slot_list_extend PySem.F.type_list_extend mt_extend (pv 2) (Qa (bc CN (Hm hr) rfl (Qa (pv 1) (Qa (pv 3) (Qa pe_str (Qa (pv 5) Qb))))) Qb))))))
  (Qe (Qj (pv 2)))),?_⟩
 have iV:=sizeLine_eq;obtain ⟨va,wm,FU,FR,rfl,xa⟩:=hv.at;have b8:=ok.len;have rJ:∀ k ∈ b,k.rs.length<=1000:=fun k hk=>by have:=(ok.kd k hk).2.1; omega
 refine ⟨(Z0),fun D hD=>?_⟩;have t1:=Jb hD (.lst []);have sA:=n6 t1;generalize upd H D _=H1 at t1 sA;refine ⟨_,Ja,va,wm,_,Ja,t1.keep _ _ xa aL,Ja,_,Ja,_,b,n,Ja,hv.dI t1,by omega,rJ,fun k eg ll us H2 s2 AJ sj kg=>?_,fun z d H' s' nd hd=>qE z d H' (t1.trans s') (Classical.byContradiction fun y=>by
  have:=t1.kh d; exact y (t1.kh d nd)) hd⟩
 obtain ⟨hk,rfl⟩:=Bk.get_some eg;obtain ⟨kn,r4,rr⟩:=ok.kd k hk;have ul:=kg.length;have lD:ll ≠ D:=fun z=>by rw [z,sA] at AJ; cases AJ
 have zl:(k.rs.zipIdx 1).length=k.rs.length:=List.length_zipIdx;have stl:=Kd.oi r4 fun r hr=>(rr r hr).1;refine ⟨ll,us,Ja,SqL.of sj,?_⟩;refine for_it (zav (xs:=us)) (fun i σ H3=>SB [D] H2 H3/\∃ ws o3 o4 o5,σ=[some (.ref va),some (.str k.n),some (.ref D),o3,o4,o5]/\H3 D=some (.lst ws)/\Bears K H3 Sx.enc ws (((k.rs.zipIdx 1).take i).flatMap (vm k.n))) ⟨SB.refl,[],none,none,none,Ja,s2.keep _ _ sA aL,.nil⟩ (fun i σ H3 hi h3=>h3.1.fu (by simpa using lD) (SqL.of sj)) (fun i x σ H3 H' hi h3 y=>?_) (fun σ H3 h3=>?_)
 ·obtain ⟨s3,ws,o3,o4,o5,rfl,bW,gI⟩:=h3;obtain ⟨T,e1,e2,rfl,hT,rfl,TH,TF⟩:=y;have Bh:e1=.int ((i+1:Nat):Int):=(Yd TH).symm;subst Bh;obtain ⟨r,er,B7⟩:=kg.get TF;have RK:=fK s3 _ _ (Ru.ag r) B7;have ro:=(rr r (Qu er)).1;have ez:(k.rs.zipIdx 1)[i]?=some (r,i+1):=by rw [List.getElem?_zipIdx,er,Nat.add_comm]; rfl
  have Ou:((k.rs.zipIdx 1).take (i+1)).flatMap (vm k.n)=((k.rs.zipIdx 1).take i).flatMap (vm k.n)++Av k.n (i+1) "once" r.1++Av k.n (i+1) "each" r.2:=by
   rw [Yg,ez,List.flatMap_append];simp [vm]
  have hlen:(((k.rs.zipIdx 1).take (i+1)).flatMap (vm k.n)).length<=k.steps.length:=by
   show _<=((k.rs.zipIdx 1).flatMap (vm k.n)).length
   conv=>rhs; rw [<- List.take_append_drop (i+1) (k.rs.zipIdx 1),List.flatMap_append,Yf]
   omega
  rw [Ou,Yf,Yf,FA,FA] at hlen;have wl:=gI.length;cases (RK:Dp K H3 e2 (.tuple [r.1.enc,r.2.enc])) with
  | @tup ad tD _ qO hda =>
  cases hda with
  | cons g1 hda =>
  cases hda with
  | cons g2 hda =>
  cases hda;rename_i u1 u2;have t4:=Jb hT (.tup [.int ((i+1:Nat):Int),.ref ad]);have Kh:=qX (K:=K) t4;generalize upd H3 T _=H4 at t4 Kh;have jt:=t4.keep _ _ bW aL;refine ⟨T,_,Ja,Kh,Ja,_,_,Ja,_,_,Ja,⟨ad,_,Ja,t4.aP qO,Ja,_,_,Ja,_,_,Ja,Ja,Ja,?_⟩⟩;have d1:=r.1.eO;have d2:=r.2.eO;refine ⟨_,rfl,.inl ⟨rfl,_,SqL.of jt⟩,_,rfl,_,rfl,_,rfl,k.n,"once",i+1,u1,r.1,rfl,GA.sb g1 t4,by omega,by omega,fun l1 v1 H5 s5 nl1 xG Em=>?_⟩;have eW:=s5.keep _ _ jt aL;have v1l:=Em.length;rw [FA] at v1l;refine ⟨D,l1,_,_,Ja,Ja,eW,xG,by omega,?_⟩;have t6:=SB.set (ps:=[D]) eW (by simp) (.lst (ws++v1));have El:=Bears.append (((gI.sb t4 Sx.ag).sb s5 Sx.ag).sb t6 Sx.ag) (Em.sb t6 Sx.ag);have i4:upd H5 D (.lst (ws++v1)) D=some (.lst (ws++v1)):=Qt;have s6:=((s3.trans t4.nil).trans s5.nil).trans t6;have OP:=GA.sb (GA.sb g2 t4) s5;have OP:=GA.sb OP t6;generalize upd H5 D _=H6 at t6 El i4 s6 OP;refine ⟨_,rfl,.inl ⟨rfl,_,SqL.of i4⟩,_,rfl,_,rfl,_,rfl,k.n,"each",i+1,u2,r.2,rfl,OP,by omega,by omega,fun l2 v2 H7 s7 Rf qh Ek=>?_⟩;have xO:=s7.keep _ _ i4 aL;have v2l:=Ek.length;rw [FA] at v2l;refine ⟨D,l2,_,_,Ja,Ja,xO,qh,by rw [Yf]; omega,?_⟩;have t8:=SB.set (ps:=[D]) xO (by simp) (.lst (ws++v1++v2));refine ⟨(s6.trans s7.nil).trans t8,_,_,_,_,Ja,Qt,?_⟩;rw [Ou];exact Bears.append ((El.sb s7 Sx.ag).sb t8 Sx.ag) (Ek.sb t8 Sx.ag)
 ·obtain ⟨s3,ws,o3,o4,o5,rfl,bW,gI⟩:=h3;rw [ul,<- zl,Yh] at gI;exact ⟨_,Ja,qk k eg D ws H3 ((t1.trans s2).nil.trans s3 |>.drop hD) hD bW gI⟩
abbrev UY:List Str:=[aI,aR,"word",aa,a7]
theorem tK:FnScope UY [aI,aR,"word",aa] (defScope Fv):=fS
theorem zfr {dP:Addr} (B:BI mg) (zN:Got P w K mg base cu [aa] (20) (Fw K 20)) (zB:GotX P w K mg base hY [aa,a7] (2) (NS K dP)) (F:Fun K ie ie Fv f fd):FnOk P w K mg base CX0 (21) f fd [aI,aR,"word",aa] (W7 K):=by
 refine F.ok tK (fun vs H Q E h=>?_) (fun _ A _ _ H vs Q E hr h=>?_)
 ·obtain ⟨n,wd,i,v,g,rfl,_⟩:=h
  rfl
 obtain ⟨n,wd,i,v,g,rfl,hv,hd,hp,q⟩:=h;have bq:=bh hr;refine ⟨_,Qe (Qj (pe_lc (own:=[(a7,4)]) (g:=(gName 4)) (tt:=tYes) (te:=(tTup (tCons (tTup (tCons (tVar 0) (tCons (tVar 1) (tCons (tVar 2) (tCons (tVar 4) tNil))))) (tCons (tOp (rIxT K) (tCall (NS K dP) [] E0 (tCons (tVar 3) (tCons (tVar 4) tNil))) (tC (.int 0))) tNil)))) rfl tK.nd (pi_list (bc zN (Hm hr) rfl (Qa (pv 3) Qb))) (blkOk_by (N:=UY) (sc:=defScope Fv) (by decide +kernel)) (fun _ _ _ _ _=>(pg_name (i:=4) tK.nd rfl (.inl rfl))) (fun _ _ _ _ _=>pts_nil) (fun _ _ _ _ _=>(Ka (Qa (Ka (Qa (pv 0) (Qa (pv 1) (Qa (pv 2) (Qa (pv 4) Qb))))) (Qa (Qm Ql (Ii zB (Hm hr) rfl (Qa (pv 3) (Qa (pv 4) Qb))) Qg (fun _ _=>rfl)) Qb)))))),?_⟩;have iV:=sizeLine_eq;have Rm:=g.mP 0;refine ⟨_,Ja,v,g,Ja,hv,hd,by omega,by omega,fun D us H1 s1 nD hD hb=>?_⟩;have vl:=hb.length;rw [Ye] at vl;refine ⟨D,Ja,⟨_,SqL.of hD⟩,fun L hL=>?_⟩;refine tu (walk_list (xs:=us)) hL (by omega) (fun j ws H2=>Bears K H2 Sx.enc ws (((g.ak 0).take j).map fun x:Pl × Str=>⟨n,i,wd,x.1,x.2⟩)) .nil (fun H2 s2=>s2.fu aL (SqL.of hD)) (fun _ _ _ _ e h=>h.sb e Sx.ag) (fun Pv j z Hq H2 ws hj s2 yz hR hw fin _=>?_) (fun ws H2 s2 Es hR hw=>?_)
 ·obtain ⟨rfl,ez⟩:=yz;obtain ⟨pl,CG,fc⟩:=hb.get ez;rw [List.getElem?_map] at CG;obtain ⟨x,ex,rfl⟩:=Kr CG;obtain ⟨pa,rfl,lE⟩:=NG fc;obtain ⟨n1,t,e1,e2⟩:=g.zt x (Qu ex);refine ⟨rfl,?_⟩;refine ⟨_,Ja,_,Ja,_,Ja,_,Ja,(by show 4<=sizeLine; decide),fun T hT=>?_⟩;have t3:=Jb hT (.tup [.str n,.int (i:Int),.str wd,.ref pa]);have s3:=s2.trans t3;have sy:=qX (K:=K) t3;generalize upd H2 T _=H3 at t3 s3 sy;refine ⟨_,Ja,_,Ja,v,g,pa,_,mc x.1,Ja,hv.sb (s1.trans s3),s3.aP lE,Whs.pl K H3 x.1,fun t' _ et X H4 s4 hX=>?_,fun z=>?_⟩
  ·obtain rfl:t'=t:=Yd (et.symm.trans e1);cases (hX:Dp K H4 X (.tuple [.str t'.1,t'.2.enc])) with
   | tup hX1 hX2 =>
   cases hX2 with
   | cons k1 hX2 =>
   cases hX2 with
   | cons k2 hX2 =>
   cases hX2;cases k1;refine ⟨_,_,_,_,Ja,Ja,hX1,atI_nat (j:=0) rfl,(Z2),fun T2 tf=>?_⟩;have t5:=Jb tf (.tup [.ref T,.str t'.1]);have QQ:=(t3.trans s4).trans t5;refine fin _ _ QQ ?_;rw [Yg,ex,Option.toList_some,Yj];refine Bears.append (hR.sb QQ Sx.ag) (.cons ?_ .nil);show Dp K _ _ (.tuple [.tuple [.str n,.int (i:Int),.str wd,wc x.1],.str x.2]);rw [<- e2];exact .tup (SqT.of Qt) (.cons (.tup ((s4.trans t5).aP sy) (.cons (.str _) (.cons (.int _) (.cons (.str _) (.cons (fK (s2.trans QQ) _ _ (wg _) fc) .nil))))) (.cons (.str _) .nil))
  ·rcases z with z | z
   ·exact absurd z n1
   ·rw [e1] at z; cases z
 ·rw [vl,Yh] at hR;exact q L ws H2 (s1.trans s2) (s1.kh L hL) Es hR
abbrev UN:List Str:=[af,aI,"step","kind"]
theorem pM:FnScope UN [af,aI] (defScope E3):=fS
theorem zgh {ae ai:Addr} (B:BI mg) (Mm:GotX P w K mg base ia [af,aI] (22) (WU K ae ai)) (F:Fun K uX uX E3 f fd):FnOk P w K mg base (L2.CX P w) (23) f fd [af,aI] (Pe K ae ai):=by
 refine F.okX pM (fun vs H Q E h=>?_) (fun _ A _ _ H vs Q E hr h=>?_)
 ·obtain ⟨v,b,n,rfl,_⟩:=h
  rfl
 obtain ⟨v,b,n,rfl,hv,ok,qk,qE⟩:=h;have bq:=bh hr;refine ⟨_,Qe (Qj (Qs (Xo rfl) rfl B.sorted (by decide +kernel) (Qa (Vu (own:=[("step",2),("kind",3)]) (g:=(gTup K 2 (gCons (gName 2) (gCons (gName 3) gNil)))) (tt:=tYes) (te:=(tVar 3)) rfl pM.nd (pi_list (jb Mm (Hm hr) rfl (takes_of rfl rfl rfl rfl) (Qa (pv 0) (Qa (pv 1) Qb)))) (blkOk_by (N:=UN) (sc:=defScope E3) (by decide +kernel)) (fun _ _ _ _ _=>(pg_tup rfl (Qi (pg_name (i:=2) pM.nd rfl (.inl rfl)) (Qi (pg_name (i:=3) pM.nd rfl (.inl rfl)) pgs_nil)))) (fun _ _ _ _ _=>pts_nil) (fun _ _ _ _ _=>(pv 3))) Qb))),?_⟩;have scb:1000 < scanBound:=by decide +kernel
 refine ⟨_,Ja,_,Ja,v,b,n,Ja,hv,ok,fun k eg ll us H1 s1 AJ sj kg=>?_,fun z d H' s' nd hd=>qE z d H' s' nd hd⟩;obtain ⟨hk,rfl⟩:=Bk.get_some eg;obtain ⟨kn,r4,rr⟩:=ok.kd k hk;have stl:=Kd.oi r4 fun r hr=>(rr r hr).1;have ul:=kg.length;refine ⟨ll,Ja,⟨_,SqL.of sj⟩,fun D nD=>?_⟩;refine VA (walk_list (xs:=us)) nD (by omega) (fun i ss H2=>ss.Nodup/\∀ x,x ∈ ss ↔ x ∈ (k.steps.take i).map Sx.k) ⟨List.nodup_nil,by simp⟩ (fun H2 s2=>s2.fu aL (SqL.of sj)) (fun _ _ _ _ _ h=>h) (fun Pv i x Hq H2 ss hi s2 y hR hl fin _=>?_) (fun ss H2 s2 aW hR hl=>?_)
 ·obtain ⟨rfl,ey⟩:=y;obtain ⟨st,es,i9⟩:=kg.get ey;cases (i9:Dp K H1 x (.tuple [st.st,.str st.k])) with
  | @tup ad tD _ qO hda =>
  cases hda with
  | cons g1 hda =>
  cases hda with
  | cons g2 hda =>
  cases hda;cases g2;refine ⟨ad,_,Ja,s2.aP qO,Ja,_,_,Ja,_,_,Ja,Ja,Ja,?_⟩;refine ⟨_,Ja,fin st.k _ SB.refl ⟨Xk hR.1,fun x=>?_⟩⟩;rw [Ww,hR.2,Yg,es,Yj,List.mem_append];simp [or_comm]
 ·rw [ul,Yh,Kd.rC] at hR;refine ⟨D,ss,Ja,aW,by omega,fun Aw p pm srt np=>?_⟩;have t3:=Jb np (.lst (Aw.map V.str));exact qk k eg p Aw _ ((s1.trans s2).trans t3) ((s1.trans s2).kh _ np) Qt (SrtOf.perm pm srt hR.1 hR.2)
abbrev UO:List Str:=[af,"led",nh,ph,aI]
theorem kE:FnScope UO [af] (defScope E7):=fS
theorem zga {ae ai:Addr} (B:BI mg) (zO:GotM P w K mg base ae eU [aw] (1) (Iv K ae)) (Mx:GotX P w K mg base uX [af,aI] (23) (Pe K ae ai)) (CP:Got P w K mg base fV ["led",nh] (1) (Xg K)) (F:Fun K cI cI E7 f fd):FnOk P w K mg base CX0 (24) f fd [af] (P2 K ae ai):=by
 refine F.ok kE (fun vs H Q E h=>?_) (fun _ A _ _ H vs Q E hr h=>?_)
 ·obtain ⟨v,b,rfl,_⟩:=h
  rfl
 obtain ⟨v,b,rfl,hv,ok,q⟩:=h;have bq:=bh hr;refine ⟨_,Qc (zd7 (i:=1) (own:=[(aI,4)]) (g:=(gName 4)) (tt:=tYes) (tk:=(tVar 4)) (tv:=(tCall (Pe K ae ai) [] E0 (tCons (tVar 0) (tCons (tVar 4) tNil)))) rfl kE.nd rfl rfl (zcq rfl rfl rfl (by decide +kernel)) (pi_list (Am zO (Hm hr) (pv 0))) (blkOk_by (N:=UO) (sc:=defScope E7) (by decide +kernel)) (fun _ _ _ _ _=>(pg_name (i:=4) kE.nd rfl (.inl rfl))) (fun _ _ _ _ _=>pts_nil) (fun _ _ _ _ _=>(pv 4)) (fun _ _ _ _ _=>(Ii Mx (Hm hr) rfl (Qa (pv 0) (Qa (pv 4) Qb)))))
  (Qc (ps_set (i:=2) kE.nd rfl (.inl rfl) (pe_lst Qb))
  (Qc (ps_set (i:=3) kE.nd rfl (.inl rfl) (bc CP (Hm hr) rfl (Qa (pv 1) (Qa (pv 2) Qb))))
  (Qc (ps_while PassesOwn.never (pt_truth (pv 3) (by intro _; rfl)) (Qc (Kf (Kn Ki PySem.F.slot_list_extend PySem.F.type_list_extend mt_extend (pv 2) (Qa (pv 3) Qb)))
  (Qe (ps_set (i:=3) kE.nd rfl (.inl rfl) (bc CP (Hm hr) rfl (Qa (pv 1) (Qa (pv 2) Qb)))))))
  (Qe (Qj (pv 2)))))),?_⟩
 have iV:=sizeLine_eq;have b8:=ok.len;have X8:b.names.length=b.length:=List.length_map ..;obtain ⟨va,wm,FU,FR,rfl,xa⟩:=hv.at;refine ⟨_,Ja,va,wm,_,Ja,xa,Ja,?_⟩;refine ⟨_,b,Ja,hv,by omega,fun nl H1 s1 nn hn=>?_⟩;refine ⟨nl,Ja,⟨_,SqL.of hn⟩,fun D nD=>?_⟩;refine zf3 (walk_list (xs:=b.names.map V.str)) nD (by rw [Ye]; omega) (fun i aQ H2=>LedAll K H2 aQ (b.take i)/\∀ p ∈ aQ,p.2 ≠ .ref D) ⟨.nil,by simp⟩ (fun H2 s2=>s2.fu aL (SqL.of hn)) (fun i aQ H2 H3 s3 ⟨h1,h2⟩=>⟨h1.sb s3 fun p hp q hq=>by rw [Qy hq]; exact h2 p hp,h2⟩) (fun Pv i x Hq H2 aQ hi s2 y hR hl aW fin _=>?_) (fun aQ H2 s2 aW hR hl=>?_)
 ·obtain ⟨rfl,ey⟩:=y;rw [List.getElem?_map] at ey;obtain ⟨n,en,rfl⟩:=Kr ey;rw [List.getElem?_map] at en;obtain ⟨k,ek,rfl⟩:=Kr en;have km:=Qu ek;have eg:=Bk.fD ok.nd km;obtain ⟨h1,h2⟩:=hR;have R3:∀ p ∈ aQ,p.1 ≠ Sum.inr k.n:=fun p hp z=>by
   have h3:p.1 ∈ (Bk.names (b.take i)).map (Sum.inr (α:=Int)):=by rw [<- h1.keys]; exact Ku ⟨p,hp,Ja⟩
   rw [z] at h3;obtain ⟨m,hm,e⟩:=Qx h3;have e:=Sum.inr.inj e;subst e;exact zb0 ok.nd ek hm
  refine ⟨rfl,_,Ja,_,Ja,_,Ja,_,b,k.n,Ja,(hv.dI s1).dI s2,ok,fun k' e' l ss H3 s3 Ym JF so=>?_,fun z=>by rw [eg] at z; cases z⟩;rw [eg] at e';cases e';refine fin (Sum.inr k.n) (.ref l) H3 s3 ?_;rw [FJ R3,Yg,ek];refine ⟨(h1.sb s3 (by simp)).append (.cons JF so .nil),fun p hp=>?_⟩;rcases Qw hp with hp | hp
  ·exact h2 p hp
  ·rw [Qy hp];intro z;rw [V.ref.inj z,aW] at Ym;cases Ym
 obtain ⟨hk,hkD⟩:=hR;rw [Ye,X8,Yh] at hk;have iW:=s1.trans s2;refine ⟨Z0,fun E nE=>?_⟩;have t3:=Jb nE (.lst []);have OL:=n6 t3;have hkE:=hk.ne nE;have bW:=t3.keep _ _ aW aL;have yD:=hk.sb t3 (by simp);have g7:=iW.trans t3;have Yq:H E=none:=iW.kh _ nE;have DE:D ≠ E:=ne_of_none aW nE;generalize upd H2 E _=H3 at t3 OL bW yD g7;refine ⟨_,Ja,_,Ja,D,E,b,[],aQ,Ja,bW,yD,OL,ok,fun F H4 s4 nF hF=>?_⟩;refine fQ ⟨fun m σ H5=>∃ (es:List Str) (F:Addr),m=9-es.length/\σ=[some (.ref va),some (.ref D),some (.ref E),some (.ref F),none]/\SB [] H H5/\H5 D=some (.dK aQ)/\LedAll K H5 aQ b/\H5 E=some (.lst (es.map V.str))/\H5 F=some (.lst ((b.names.filter (into b es)).map V.str))/\F ≠ E/\es.Nodup/\(∀ n ∈ es,n ∈ b.names)/\(∀ n ∈ es,EndK b n)/\∀ (i:Nat) (n:Str),es[i]?=some n->∀ k ∈ adj b n,k ∈ es.take i,
  ⟨9,[],F,rfl,rfl,g7.trans s4,s4.keep _ _ bW aL,yD.sb s4 (by simp),s4.keep _ _ OL aL,hF,(fun z=>by rw [z,OL] at nF; cases nF),List.nodup_nil,by simp,by simp,by simp⟩,fun m σ H5 hW=>?_⟩
 obtain ⟨es,F,rfl,rfl,s5,eW,Bb,OK,Za,FE,nd,sub,ends,ord⟩:=hW;have fl:=List.length_filter_le (into b es) b.names;have esl:es.length<=8:=by
  have:=nd.length_le_of_subset (l₂:=b.names) sub;omega
 refine ⟨_,Ja,_,.inl ⟨_,SqL.of Za,Ja⟩,?_⟩;by_cases hf:b.names.filter (into b es)=[]
 ·rw [hf];refine iteF ⟨_,Ja,q E es H5 s5 Yq OK ⟨nd,esl,fun n=>⟨fun h=>⟨sub n h,ends n h⟩,fun h=>zb7 ok hf h.2 h.1⟩,ord⟩⟩
 ·rw [show (!((b.names.filter (into b es)).map V.str).isEmpty)=true by
   cases h:b.names.filter (into b es) with
   | nil=>exact absurd h hf
   | cons _ _=>rfl]
  refine iteT ⟨_,fun σ' H' h=>h,?_⟩;refine ⟨_,Ja,.inl ⟨rfl,_,SqL.of OK⟩,_,Ja,E,F,_,_,Ja,Ja,OK,Za,by rw [Ye,Ye]; omega,?_⟩;rw [<- Yj];have t6:=SB.set (ps:=[E]) OK (by simp) (.lst ((es++b.names.filter (into b es)).map V.str));have OJ:upd H5 E (.lst ((es++b.names.filter (into b es)).map V.str)) E=some (.lst ((es++b.names.filter (into b es)).map V.str)):=Qt;have i4:=t6.keep _ _ eW (by simpa using DE);have Sa:=Bb.sb t6 fun p hp q hq=>by rw [Qy hq]; exact hkE p hp
  have s6:SB [] H (upd H5 E (.lst ((es++b.names.filter (into b es)).map V.str))):=((s5.nil (ps:=[E])).trans t6).drop Yq;generalize upd H5 E _=H6 at t6 OJ i4 Sa s6;refine ⟨_,Ja,_,Ja,D,E,b,es++b.names.filter (into b es),aQ,Ja,i4,Sa,OJ,ok,fun F2 H7 s7 Yp hF2=>?_⟩;have Js:0 < (b.names.filter (into b es)).length:=List.length_pos_iff.mpr hf;refine ⟨9-(es++b.names.filter (into b es)).length,by rw [Yf]; omega,es++b.names.filter (into b es),F2,rfl,rfl,s6.trans s7,s7.keep _ _ i4 aL,Sa.sb s7 (by simp),s7.keep _ _ OJ aL,hF2,(fun z=>by rw [z,OJ] at Yp; cases Yp),?_,fun n hn=>?_,fun n hn=>?_,fun i n ei k hk=>?_⟩
  ·refine List.nodup_append.mpr ⟨nd,ok.nd.filter _,fun x hx y hy e=>?_⟩;subst e;have:=(List.mem_filter.mp hy).2;unfold into at this;rw [Bool.and_eq_true,decide_eq_true_eq] at this;exact this.1 hx
  ·rcases Qw hn with h | h
   ·exact sub n h
   ·exact (List.mem_filter.mp h).1
  ·rcases Qw hn with h | h
   ·exact ends n h
   ·have:=(List.mem_filter.mp h).2;unfold into at this;rw [Bool.and_eq_true,List.all_eq_true] at this;exact .mk fun k hk=>ends k (Ks (this.2 k hk))
  ·rcases Nat.lt_or_ge i es.length with hi | hi
   ·rw [List.getElem?_append_left hi] at ei;rw [List.take_append_of_le_length (by omega)];exact ord i n ei k hk
   ·rw [List.getElem?_append_right hi] at ei;have:=(List.mem_filter.mp (Qu ei)).2;unfold into at this;rw [Bool.and_eq_true,List.all_eq_true] at this;have h3:=Ks (this.2 k hk);rw [List.take_append,List.take_of_length_le hi];exact i8 _ h3
abbrev OX:List Str:=["led",nh,aI,"kind"]
theorem lW:FnScope OX ["led",nh] (defScope Fp):=fS
theorem zgm (B:BI mg) (F:Fun K fV fV Fp f fd):FnOk P w K mg base CX0 (1) f fd ["led",nh] (Xg K):=by
 refine F.ok lW (fun vs H Q E h=>?_) (fun _ A _ s H vs Q E hr h=>?_)
 ·obtain ⟨d,e,b,es,aQ,rfl,_⟩:=h
  rfl
 obtain ⟨d,e,b,es,aQ,rfl,hd,hk,he,ok,q⟩:=h;have bq:=bh hr;refine ⟨_,Qe (Qj (pe_lock (pe_lc (own:=[(aI,2)]) (g:=(gName 2)) (tt:=(tAnd (tTest (tOp (rIn K true) (tVar 2) (tVar 1))) (tB (tCB (rAll K) (tCons (tLc (iList K (tDGet (tVar 0) (tVar 2))) (gName 3) tYes (tOp (rIn K false) (tVar 3) (tVar 1)) [3]) tNil))))) (te:=(tVar 2)) rfl lW.nd (pi_keys (pv 0)) (blkOk_by (N:=OX) (sc:=defScope Fp) (by decide +kernel)) (fun _ _ _ _ _=>(pg_name (i:=2) lW.nd rfl (.inl rfl))) (fun _ _ _ _ _=>(pts_one (PW.pt (pw_and (pt_cmpR op_notIn_seq (pv 2) (pv 1) (by rfl)) (pw_and1 (Qo (Qs (cr_all rfl) rfl B.all boot_all (Qa (pe_lc (own:=[("kind",3)]) (g:=(gName 3)) (tt:=tYes) (te:=(tOp (rIn K false) (tVar 3) (tVar 1))) rfl lW.nd (pi_list (pe_dget (u1 hr) (pv 0) (pv 2) (fun _ _=>rfl))) (blkOk_by (N:=OX) (sc:={ kind:=.function,names:=[(".0",.local),(aI,.local),("all",.globalImplicit),(nh,.cell),("led",.cell)],isGenerator:=false,isCoroutine:=false }) (by decide +kernel)) (fun _ _ _ _ _=>(pg_name (i:=3) lW.nd rfl (.inl rfl))) (fun _ _ _ _ _=>pts_nil) (fun _ _ _ _ _=>(pe_cmpR op_in_seq (pv 3) (pv 1) (by rfl)))) Qb)))))))) (fun _ _ _ _ _=>(pv 2))))),?_⟩;have iV:=sizeLine_eq;have b8:=ok.len;have kl:=hk.length;refine ⟨d,_,hd,trivial,fun od=>?_⟩;have hL:∀ l xs,H l=some (.lst xs)->upd H d (.frz od (.dK aQ)) l=some (.lst xs):=fun l xs h=>by rw [upd_ne (fun z=>by rw [z,hd] at h; cases h)]; exact h
 have YL:=hk.keep hL;have Ge:=hL _ _ he;have qQ:upd H d (.frz od (.dK aQ)) d=some (.frz od (.dK aQ)):=Qt;have un:∀ H',SB [] (upd H d (.frz od (.dK aQ))) H'->SB [] H (upd H' d (.dK aQ)):=fun H' s=>s.unlock hd (fun _ z=>nomatch z) (fun _ _ z=>nomatch z);have dm:∀ p,upd H d (.frz od (.dK aQ)) p=none->H p=none:=fun p h=>by
  have z:p ≠ d:=fun z=>by rw [z,Qt] at h; cases h
  rwa [upd_ne z] at h
 generalize upd H d _=HL at YL Ge qQ un dm;refine ⟨_,Ja,d,od,Ja,.inl ⟨aQ,qQ,fun D nD=>?_⟩⟩;refine tu walk_keys nD (by omega) (fun i us _=>us=((b.names.take i).filter (into b es)).map V.str) rfl (fun H2 s2=>s2.frzs _ _ _ qQ) (fun _ _ _ _ _ h=>h) (fun Pv i x Hq H2 us hi s2 y hR hu fin skip=>?_) (fun us H2 s2 aW hR hu=>?_)
 ·obtain ⟨rfl,k0,v0,ek,rfl⟩:=y;obtain ⟨kd,Zp,e0⟩:=hk.get ek;have e0:k0=Sum.inr kd.n:=e0;subst e0;have km:=Qu Zp;have ea:=De ok km;obtain ⟨l,ss,hv,hl,so⟩:=YL.val (Bk.fD ok.nd km);have en:b.names[i]?=some kd.n:=by rw [List.getElem?_map,Zp]; rfl
  have vN:=s2.keep _ _ Ge aL;have qh:=s2.keep _ _ hl aL;have hd2:=s2.frzs _ _ _ qQ;have oA:((b.names.take (i+1)).filter (into b es)).map V.str=((b.names.take i).filter (into b es)).map V.str++(if into b es kd.n=true then [V.str kd.n] else []):=by
   rw [Yg,en,List.filter_append,Yj]
   congr 1
   by_cases z:into b es kd.n=true
   ·simp [z]
   ·simp [z]
  refine ⟨rfl,_,Ja,_,Ja,e,_,Ja,.inl (SqL.of vN),Ja,FN _,_,Ja,?_⟩;rw [if_pos rfl];show if (!inV (.str kd.n) (es.map V.str))=true then _ else _;rw [FL];by_cases h1:kd.n ∈ es
  ·rw [show (!decide (kd.n ∈ es))=false by simp [h1]];refine iteF (skip _ SB.refl ?_);rw [oA,show into b es kd.n=false by simp [into,h1],hR]; simp
  ·rw [show (!decide (kd.n ∈ es))=true by simp [h1]];refine iteT ?_;have sl:ss.length < 1000:=by
    have h2:=so.nd.length_le_of_subset (l₂:=b.names) fun x hx=>ok.led km x ((so.mem x).mp hx);rw [Ye] at h2;omega
   refine ⟨_,Ja,_,Ja,d,.ref l,Ja,zly (.inr ⟨_,hd2⟩) hv,l,Ja,⟨_,SqL.of qh⟩,fun D2 FY=>?_⟩;refine tu (walk_list (xs:=ss.map V.str)) FY (by rw [Ye]; omega) (fun j us _=>us=((ss.take j).map fun k=>decide (k ∈ es)).map V.bl) rfl (fun H4 s4=>s4.fu aL (SqL.of qh)) (fun _ _ _ _ _ h=>h) (fun Pv j z Hq H4 us4 hj s4 y Bo hu4 Tt _=>?_) (fun us4 H4 s4 jt Bo hu4=>?_)
   ·obtain ⟨rfl,ez⟩:=y;rw [List.getElem?_map] at ez;obtain ⟨sx,ex,rfl⟩:=Kr ez;refine ⟨rfl,_,Ja,_,Ja,e,_,Ja,.inl (SqL.of (s4.keep _ _ vN aL)),Ja,FN _,?_⟩;refine Tt _ _ SB.refl ?_;rw [Bo,Yg,ex];simp [FL]
   ·subst Bo;refine ⟨D2,_,Ja,SqL.of jt,_,Ja,?_⟩;have TJ:((ss.take (ss.map V.str).length).map fun k=>decide (k ∈ es)).all id=(adj b kd.n).all fun k=>decide (k ∈ es):=by
     rw [Ye,Yh,List.all_map,ea,<- zf4 so]; rfl
    rw [TJ];have ei:into b es kd.n=(adj b kd.n).all fun k=>decide (k ∈ es):=by unfold into; simp [h1]
    by_cases h3:((adj b kd.n).all fun k=>decide (k ∈ es))=true
    ·rw [h3];refine iteT ⟨_,Ja,fin _ _ s4 ?_⟩;rw [oA,ei,h3,hR]; rfl
    ·have h3:((adj b kd.n).all fun k=>decide (k ∈ es))=false:=by simpa using h3
     rw [h3];refine iteF (skip _ s4 ?_);rw [oA,ei,h3,hR]; simp
 ·subst hR;have hd2:=s2.frzs _ _ _ qQ;have Dd:D ≠ d:=fun z=>by rw [z,qQ] at nD; cases nD
  refine ⟨hd2,q D _ (un _ s2) (dm _ nD) ?_⟩;rw [upd_ne Dd,aW,kl,<- show b.names.length=b.length from List.length_map ..,Yh]
abbrev UP:List Str:=[af,nh,aI]
theorem pQ:FnScope UP [af] (defScope Fo):=fS
theorem zht {ae ai:Addr} (B:BI mg) (zI:Got P w K mg base cI [af] (24) (P2 K ae ai)) (zO:GotM P w K mg base ae eU [aw] (1) (Iv K ae)) (F:Fun K cT cT Fo f fd):FnOk P w K mg base CX0 (25) f fd [af] (WY K ae ai):=by
 refine F.ok pQ (fun vs H Q E h=>?_) (fun _ A _ _ H vs Q E hr h=>?_)
 ·obtain ⟨v,b,rfl,_⟩:=h
  rfl
 obtain ⟨v,b,rfl,hv,ok,q⟩:=h;have bq:=bh hr;refine ⟨_,Qc (ps_set (i:=1) pQ.nd rfl (.inr rfl) (bc zI (Hm hr) rfl (Qa (pv 0) Qb)))
  (Qe (Qj (Qs cr_sortedS rfl B.sorted (by decide +kernel) (Qa (pe_lc (own:=[(aI,2)]) (g:=(gName 2)) (tt:=(tTest (tOp (rIn K true) (tVar 2) (tVar 1)))) (te:=(tVar 2)) rfl pQ.nd (pi_list (Am zO (Hm hr) (pv 0))) (blkOk_by (N:=UP) (sc:=defScope Fo) (by decide +kernel)) (fun _ _ _ _ _=>(pg_name (i:=2) pQ.nd rfl (.inl rfl))) (fun _ _ _ _ _=>(pts_one (pt_cmpR op_notIn_seq (pv 2) (pv 1) (by rfl)))) (fun _ _ _ _ _=>(pv 2))) Qb)))),?_⟩
 have iV:=sizeLine_eq;have b8:=ok.len;refine ⟨_,Ja,v,b,Ja,hv,ok,fun l es H1 s1 nl hl eo=>?_⟩;have el:=eo.len;have hm:∀ n ∈ b.names,n ∈ es ↔ EndK b n:=fun n hn=>⟨fun h=>((eo.mem n).mp h).2,fun h=>(eo.mem n).mpr ⟨hn,h⟩⟩;obtain ⟨va,wm,FU,FR,rfl,xa⟩:=hv.at;refine ⟨_,Ja,va,wm,_,Ja,s1.keep _ _ xa aL,Ja,?_⟩;refine ⟨_,b,Ja,hv.dI s1,by omega,fun Rf H2 s2 nn hn=>?_⟩;have qh:=s2.keep _ _ hl aL;refine ⟨Rf,Ja,⟨_,SqL.of hn⟩,fun D nD=>?_⟩;have X8:b.names.length=b.length:=List.length_map ..;refine tu (walk_list (xs:=b.names.map V.str)) nD (by rw [Ye]; omega) (fun i us _=>us=((b.names.take i).filter fun n=>decide (n ∉ es)).map V.str) rfl (fun H3 s3=>s3.fu aL (SqL.of hn)) (fun _ _ _ _ _ h=>h) (fun Pv i x Hq H3 us hi s3 y hR hu fin skip=>?_) (fun us H3 s3 bW hR hu=>?_)
 ·obtain ⟨rfl,ey⟩:=y;rw [List.getElem?_map] at ey;obtain ⟨n,en,rfl⟩:=Kr ey;refine ⟨rfl,_,Ja,_,Ja,l,_,Ja,.inl (SqL.of (s3.keep _ _ qh aL)),Ja,FN _,_,Ja,?_⟩;rw [if_pos rfl,FL];have oA:((b.names.take (i+1)).filter fun n=>decide (n ∉ es)).map V.str=((b.names.take i).filter fun n=>decide (n ∉ es)).map V.str++(if n ∉ es then [V.str n] else []):=by
   rw [Yg,en,List.filter_append,Yj]
   congr 1
   by_cases z:n ∈ es
   ·simp [z]
   ·simp [z]
  by_cases h1:n ∈ es
  ·rw [show (!decide (n ∈ es))=false by simp [h1]];refine iteF (skip _ SB.refl ?_);rw [oA,if_neg (by simp [h1]),hR]; simp
  ·rw [show (!decide (n ∈ es))=true by simp [h1]];refine iteT ⟨_,Ja,fin _ _ SB.refl ?_⟩;rw [oA,if_pos h1,hR]
 ·rw [Ye,Yh] at hR;subst hR;refine ⟨D,_,Ja,SqL.of bW,?_,fun ys p pm srt np=>?_⟩
  ·have:=List.length_filter_le (fun n=>decide (n ∉ es)) b.names;omega
  have g7:=(s1.trans s2).trans s3;refine q p ys _ (g7.trans (Jb np _)) (g7.kh _ np) Qt srt (pm.nodup_iff.mpr (ok.nd.filter _)) fun n=>?_;rw [pm.mem_iff,List.mem_filter];simp only [decide_eq_true_eq];exact ⟨fun ⟨h1,h2⟩=>⟨h1,fun z=>h2 ((hm n h1).mpr z)⟩,fun ⟨h1,h2⟩=>⟨h1,fun z=>h2 ((hm n h1).mp z)⟩⟩
abbrev zkl:List Str:=[af,aa,"endless","kind"]
theorem tU:FnScope zkl [af,aa] (defScope Hu):=fS
theorem zh9 {bI ae ai:Addr} (B:BI mg) (kQ:OwnI P w K mg base "Endless" bI 1) (MM:Got P w K mg base cT [af] (25) (WY K ae ai)) (zG:Got P w K mg base cG [aa] (71) (PD K)) (F:Fun K cX cX Hu f fd):FnOk P w K mg base (L2.CX P w) (72) f fd [af,aa] (ND K ae ai bI):=by
 refine F.okX tU (fun vs H Q E h=>?_) (fun _ A _ _ H vs Q E hr h=>?_)
 ·obtain ⟨v,w,b,g,rfl,_⟩:=h
  rfl
 obtain ⟨v,w,b,g,rfl,hv,ok,hg,hd,hp,hk,q,qE⟩:=h;have bq:=bh hr;refine ⟨_,Qc (ps_set (i:=2) tU.nd rfl (.inl rfl) (bc MM (Hm hr) rfl (Qa (pv 0) Qb)))
  (Qe (ps_for (passes_of rfl) rfl (pi_list (bc zG (Hm hr) rfl (Qa (pv 1) Qb))) (pg_name (i:=3) tU.nd rfl (.inl rfl))
   (Qe (Qr (pt_cmpR op_in_seq (pv 3) (pv 2) (by rfl)) (Qe (ps_raise rfl (takes_of rfl rfl rfl rfl) (We kQ (Hm hr) rfl (pv 3)))) pss_nil)))),?_⟩
 refine ⟨_,Ja,v,b,Ja,hv,ok,fun l ss H1 s1 nl hl srt nd hm=>?_⟩;refine ⟨_,Ja,w,g,b.names,Ja,hg.sb s1,hd,hp,hk,by rw [Ye]; have:=ok.len; omega,fun l2 XI H2 s2 Rf qh so sl=>?_⟩;refine ⟨l2,Ja,⟨_,SqL.of qh⟩,?_⟩;have xc:=s2.keep _ _ hl aL;have iX:=s1.trans s2;refine for_it (walk_list (xs:=XI.map V.str)) (fun i σ H3=>SB [] H2 H3/\(∀ m ∈ XI.take i,¬ ¬ EndK b m)/\∃ o3,σ=[some v,some w,some (.ref l),o3]) ⟨SB.refl,by simp,none,Ja⟩ (fun i σ H3 hi h3=>h3.1.fu aL (SqL.of qh)) (fun i x σ Hq H3 hi h3 y=>?_) (fun σ H3 h3=>?_)
 ·obtain ⟨s3,zj,o3,rfl⟩:=h3;obtain ⟨rfl,ey⟩:=y;rw [List.getElem?_map] at ey;obtain ⟨k,ek,rfl⟩:=Kr ey;obtain ⟨p,fB,e⟩:=Qx ((so.mem k).mp (Qu ek));have kb:k ∈ b.names:=e ▸ hk p fB;refine ⟨_,Ja,_,Ja,l,_,Ja,.inl (SqL.of (s3.keep _ _ xc aL)),Ja,FN _,?_⟩;rw [FL];by_cases he:EndK b k
  ·rw [show decide (k ∈ ss)=false from Qz fun z=>((hm k).mp z).2 he];refine ⟨_,Ja,iteF ⟨s3,fun m si=>?_,_,Ja⟩⟩;rw [Yg,ek] at si;rcases Qw si with z | z
   ·exact zj m z
   ·rw [Qy z]; exact fun z=>z he
  ·rw [show decide (k ∈ ss)=true from Ya ((hm k).mpr ⟨kb,he⟩)];refine ⟨_,Ja,iteT ⟨_,Ja,fun x nx=>?_⟩⟩;have g7:=iX.trans s3;exact qE k (.at so ek he zj) x _ (g7.trans (SB.new nx _)) (g7.kh _ nx) Qt
 ·obtain ⟨s3,zj,o3,rfl⟩:=h3;rw [Ye,Yh] at zj;exact q (fun x hx=>Classical.byContradiction fun z=>zj x.1.1 ((so.mem _).mpr (Ku ⟨x,hx,Ja⟩)) z) _ (iX.trans s3)
end
section
variable {P:Program} {w:World} {K:Qn} {mg:Str->Option Value} {base:Heap} {f:Addr} {fd:FuncData} {ps:List Addr}
theorem zhs:FnScope [aX] [aX] (defScope Hw):=fS
theorem zgr (F:Fun K aF aF Hw f fd):FnOk P w K mg base CX0 1 f fd [aX] (V9 K):=by
 refine F.ok zhs (fun vs H Q E h=>?_) (fun _ A _ _ H vs Q E hr h=>?_)
 ·obtain ⟨v,rfl,_⟩:=h
  rfl
 obtain ⟨i,rfl,q⟩:=h;refine ⟨_,Qc (Qr (pt_cmpR op_eq (pv 0) Qg (nomark _)) (Qe (Qj (Ka Qb))) pss_nil)
  (Qe (Qj (Ka (Qa (Ka (Qa (Ka Qb) (Qa (pv 0) Qb))) Qb)))),?_⟩
 refine ⟨_,Ja,Ja,_,Ja,?_⟩;refine ite2 (fun c=>?_) (fun c=>?_)
 ·have c':V.int i=V.int 0:=Ks c
  injection c' with c'
  subst c';refine ⟨(Z0),fun p hp=>?_⟩;exact q _ _ (SB.new hp _) (HV (SqT.of Qt))
 ·have c':¬ V.int i=V.int 0:=of_decide_eq_false (Bool.eq_false_iff.mpr c);have c2:¬ i=0:=fun z=>c' (by rw [z]);refine ⟨(Z0),fun p1 h1=>?_⟩;refine ⟨_,Ja,(Z2),fun p2 h2=>?_⟩;refine ⟨(Z1),fun p3 h3=>?_⟩;have e1:SB [] H (upd H p1 (.tup [])):=SB.new h1 _;have e2:=Jb h2 (.tup [.ref p1,.int i]);have e3:=Jb h3 (.tup [.ref p2]);refine q _ _ (e1.trans (e2.trans e3)) ?_;have e:Lad.num i=.cons .nil i .nil:=if_neg c2;rw [e];exact Vx (SqT.of Qt) (e3.aP (SqT.of Qt)) ((HV (SqT.of Qt)).sb (e2.trans e3))
end
section
variable {P:Program} {w:World} {K:Qn} {mg:Str->Option Value} {base:Heap} {f:Addr} {fd:FuncData} {ps:List Addr}
theorem zgs:FnScope [aY,ao] [aY,ao] (defScope E9):=fS
theorem ziu (F:Fun K cS cS E9 f fd):FnOk P w K mg base CX0 1 f fd [aY,ao] (Ah K):=by
 refine F.ok zgs (fun vs H Q E h=>?_) (fun uP A _ s H vs Q E hr h=>?_)
 ·obtain ⟨v,u,l,k,rfl,_⟩:=h
  rfl
 obtain ⟨v,u,l,k,rfl,hv,hu,hd,q⟩:=h;refine ⟨_,Qe (Qj (pe_cmpR (Vv (by have:=hr.un; show A.units+3+100 < cLine; have h3:(A.deeper (envOfC cS (defScope E9) s.heap.objs.size f uP)).units=A.units+3:=rfl; omega)) (pv 0) (pv 1) (nomark _))),?_⟩;have:=l.eM;exact ⟨_,Ja,_,Ja,l.enc,k.enc,hv,hu,l.dN k,l.y5,by omega,q⟩
end
section
variable {P:Program} {w:World} {K:Qn} {mg:Str->Option Value} {base:Heap} {f:Addr} {fd:FuncData}
theorem tV:FnScope [aY,ao,wa] [aY,ao] (defScope HF):=fS
theorem zfi (B:BI mg) (F:Fun K d9 d9 HF f fd):FnOk P w K mg base CX0 1 f fd [aY,ao] (V0 K):=by
 refine F.ok tV (fun vs H Q E h=>?_) (fun _ A _ _ H vs Q E hr h=>?_)
 ·obtain ⟨v,u,l,k,rfl,_⟩:=h
  rfl
 obtain ⟨v,u,l,o,rfl,hv,hu,hd,hd2,hp,fB,q⟩:=h;have bq:=bh hr;refine ⟨_,Qc (ps_set (i:=2) tV.nd rfl (.inl rfl) Qg)
  (Qc (ps_while PassesOwn.never (PW.pt (pw_and (pt_cmpR op_lt (pv 2) (Qs (call_min2 rfl) rfl B.min boot_min (Qa (Qs call_len_seq rfl B.len PySem.boot_len (Qa (pv 0) Qb)) (Qa (Qs call_len_seq rfl B.len PySem.boot_len (Qa (pv 1) Qb)) Qb))) (nomark _)) (pw_and1 (pt_cmpR (op_eqD (Dm hr)) (Qm Ql (pv 0) (pv 2) (fun _ _=>rfl)) (Qm Ql (pv 1) (pv 2) (fun _ _=>rfl)) (nomark _)))))
   (Qe (ps_aug (i:=2) tV.nd rfl (.inl rfl) Qg ip_add)))
  (Qe (Qj (pv 2)))),?_⟩
 obtain ⟨a,xs,rfl,mX,jU⟩:=n4 hv;obtain ⟨b,ys,rfl,kU,jT⟩:=n4 hu;have xl:=jU.length;have yl:=jT.length;refine ⟨fun mm σ H2=>∃ k:Nat,mm=l.ps.length-k/\H2=H/\σ=[some (.ref a),some (.ref b),some (.int (k:Int))]/\k<=l.ps.length/\k<=o.ps.length/\l.alh o=k+(Lad.ofPs (l.ps.drop k)).alh (Lad.ofPs (o.ps.drop k)),⟨_,0,Ja,Ja,Ja,Nat.zero_le _,Nat.zero_le _,by rw [List.drop_zero,List.drop_zero,Lad.aD,Lad.aD,Nat.zero_add]⟩,fun mm σ H2 h2=>?_⟩;obtain ⟨k,rfl,rfl,rfl,kl,ko,he⟩:=h2;refine ⟨_,Ja,_,Ja,a,xs,Ja,.inr mX,_,Ja,b,ys,Ja,.inr kU,_,_,Ja,_,_,Ja,Ja,_,Ja,?_⟩;have fin:¬ (k < l.ps.length/\k < o.ps.length)->Q (.int (k:Nat)) H2:=fun hh=>by
  rw [Lad.BE hh,Nat.add_zero] at he;rw [<- he]; exact q
 by_cases d4:k < l.ps.length/\k < o.ps.length
 ·have c1:decide ((k:Int) < (if ((ys.length:Nat):Int) < (xs.length:Nat) then ((ys.length:Nat):Int) else (xs.length:Nat)))=true:=Ya (by split <;> omega);rw [c1];refine iteT ?_;have B5:xs[k]?=some xs[k]:=Kp (by omega);have B4:ys[k]?=some ys[k]:=Kp (by omega);obtain ⟨p1,EC,gA⟩:=jU.get B5;obtain ⟨p2,yZ,A8⟩:=jT.get B4;have d1:=l.aA p1 (Qu EC);have d2:=o.aA p2 (Qu yZ);rw [Lad.zm EC yZ] at he;refine ⟨_,Ja,_,Ja,a,xs,_,_,Ja,Ja,mX,atI_nat B5,_,Ja,_,Ja,b,ys,_,_,Ja,Ja,kU,atI_nat B4,Lad.aG p1,Lad.aG p2,gA,A8,Lad.kT (by omega),Lad.kT (by omega),_,Ja,?_⟩;rw [Lad.yY];by_cases hh:p1.1=p2.1/\p1.2=p2.2
  ·rw [show (decide (p1.1=p2.1)&&decide (p1.2=p2.2))=true by simp [hh.1,hh.2]];refine iteT ?_;rw [if_pos hh] at he;refine ⟨_,fun σ' H' z=>z,?_⟩;exact ⟨_,Ja,_,_,Ja,Ja,l.ps.length-(k+1),by omega,k+1,Ja,Ja,Ja,by omega,by omega,by omega⟩
  ·rw [show (decide (p1.1=p2.1)&&decide (p1.2=p2.2))=false by
    rw [Bool.and_eq_false_iff];by_cases h1:p1.1=p2.1
    ·exact .inr (Qz fun h2=>hh ⟨h1,h2⟩)
    ·exact .inl (Qz h1)]
   refine iteF ?_;rw [if_neg hh,Nat.add_zero] at he;refine ⟨_,Ja,?_⟩;rw [<- he]; exact q
 ·have c1:decide ((k:Int) < (if ((ys.length:Nat):Int) < (xs.length:Nat) then ((ys.length:Nat):Int) else (xs.length:Nat)))=false:=Qz (by split <;> omega);rw [c1];refine iteF ?_;exact ⟨_,Ja,fin d4⟩
abbrev Ve:List Str:=[aY,ao,"exponent",aX,"kept","alike","pair"]
theorem ji:FnScope Ve [aY,ao] (defScope EV):=fS
theorem zgn (B:BI mg) (GL:Got P w K mg base cS [aY,ao] 1 (Ah K)) (GM:Got P w K mg base ik [dQ,aq] 1 (Pw K)) (F:Fun K gM gM EV f fd):FnOk P w K mg base CX0 2 f fd [aY,ao] (Ik K):=by
 refine F.ok ji (fun vs H Q E h=>?_) (fun _ A _ _ H vs Q E hr h=>?_)
 ·obtain ⟨v,u,l,k,rfl,_⟩:=h
  rfl
 obtain ⟨v,u,l,k,rfl,hv,hu,hd,hd2,hp,fB,q⟩:=h;refine ⟨_,Qc (Qr (Qp (pt_truth (pv 1) (by intro _; rfl))) (Qe (Qj (pv 0))) pss_nil)
  (Qc (ps_asg (Qm Ql (pv 1) Qg (fun _ _=>rfl)) (pg_tup rfl (Qi (pg_name (i:=2) ji.nd rfl (.inr rfl)) (Qi (pg_name (i:=3) ji.nd rfl (.inl rfl)) pgs_nil))))
  (Qc (ps_set (i:=4) ji.nd rfl (.inl rfl) (pe_callTy call_tuple_of rfl B.tuple boot_tuple (Qa
   (pe_lc (own:=[("pair",6)]) (g:=gName 6) (tt:=tB (tCall (Ah K) [] E0 (tCons (tVar 2) (tCons (tOp (rIxT K) (tVar 6) (tC (.int 0))) tNil)))) (te:=tVar 6) rfl ji.nd (pi_tup (pv 0))
    (blkOk_by (N:=Ve) (sc:=defScope EV) (by decide +kernel))
    (fun _ _ _ _ _=>pg_name (i:=6) ji.nd rfl (.inl rfl))
    (fun _ _ _ _ _=>pts_one (Qo (bc GL hr rfl (Qa (pv 2) (Qa (Qm Ql (pv 6) Qg (fun _ _=>rfl)) Qb)))))
    (fun _ _ _ _ _=>pv 6)) Qb)))
  (Qc (ps_set (i:=5) ji.nd rfl (.inl rfl) (bc GM hr rfl (Qa (pv 0) (Qa (pv 2) Qb))))
  (Qe (Qj (pe_op Aj (pe_op Aj (pv 4) (Ka (Qa (Ka (Qa (pv 2) (Qa (pe_op Ko (pv 5) (pv 3)) Qb))) Qb))) (pe_slice FF (pv 1) (po_some Qg) po_none))))))),?_⟩
 obtain ⟨b,ys,rfl,kU,jT⟩:=n4 hu;refine ⟨_,Ja,_,.inr (.inl ⟨ys,kU,Ja⟩),?_⟩;cases k with
 | nil =>
  cases jT;refine iteT ?_;exact ⟨_,Ja,q v H SB.refl hv⟩
 | cons e m r =>
  rw [show (Lad.cons e m r).ps=(e,m)::r.ps from rfl] at jT;cases jT with
  | @cons y0 yr _ _ h0 hbr =>
  refine iteF ?_;obtain ⟨c,ue,rfl,mK,hle⟩:=sU h0;refine ⟨_,Ja,b,_,_,_,Ja,Ja,kU,atI_nat (j:=0) rfl,c,_,Ja,mK,Ja,_,_,Ja,_,_,Ja,Ja,?_⟩;obtain ⟨a,xs,rfl,mX,jU⟩:=n4 hv;have bl:=jU.length;have lp:=l.aN;rw [<- Lad.cE] at lp;have ed:e.deep < (Lad.cons e m r).deep:=Lad.aA (.cons e m r) (e,m) (bF ..);refine ⟨_,Ja,a,Ja,⟨xs,mX⟩,fun D hD=>?_⟩;refine lc_it (walk_tup (xs:=xs)) (fun i H2=>SB [D] H H2/\∃ acc,H2 D=some (.lst acc)/\Bears K H2 Lad.aG acc ((l.ps.take i).filter fun p=>e.lt p.1)) ⟨SB.new hD _,[],Qt,.nil⟩ (fun i H2 hi h2=>(h2.1.drop hD).aP mX) (fun i x H2 H' hi h2 y=>?_) (fun H2 h2=>?_)
  ·obtain ⟨s2,acc,aW,bY⟩:=h2;obtain ⟨rfl,ex⟩:=y;have hQ:=s2.drop hD;obtain ⟨b1,eb,sk⟩:=jU.get ex;obtain ⟨ad,ux,rfl,fA,D9⟩:=sU sk;refine ⟨rfl,?_⟩;refine ⟨_,Ja,_,Ja,ad,_,_,_,Ja,Ja,hQ.aP fA,atI_nat (j:=0) rfl,ue,ux,e,b1.1,Ja,hle.sb hQ,D9.sb hQ,by omega,_,Ja,?_⟩;have al:=bY.length;have fl:=List.length_filter_le (fun p:Lad × Int=>e.lt p.1) (l.ps.take i);rw [Kx] at fl;cases hc:e.lt b1.1 with
   | true =>
    refine iteT ?_;refine ⟨_,Ja,acc,aW,xE (by omega),?_⟩;have t9:=SB.set (ps:=[D]) aW (by simp) (.lst (acc++[.ref ad]));refine ⟨s2.trans t9,_,Qt,?_⟩;rw [Yg,eb,List.filter_append];refine Bears.append (bY.sb t9 Lad.aM) ?_;have:([b1]:List (Lad × Int)).filter (fun p=>e.lt p.1)=[b1]:=by simp [hc]
    show Bears K _ Lad.aG _ (([b1]:List (Lad × Int)).filter (fun p=>e.lt p.1));rw [this];exact .cons (fK t9 _ _ (Lad.aM _) (fK hQ _ _ (Lad.aM _) sk)) .nil
   | false =>
    refine iteF ?_;refine ⟨s2,acc,aW,?_⟩;rw [Yg,eb,List.filter_append];simpa [hc] using bY
  ·obtain ⟨s2,acc,aW,bY⟩:=h2;rw [bl,Yh] at bY;have hQ:=s2.drop hD;refine ⟨D,acc,Ja,.inl ⟨SqL.of aW,fun kt Oz=>?_⟩⟩;have s3:=Jb Oz (.tup acc);have Az:=hQ.trans s3;refine ⟨_,Ja,_,Ja,_,ue,l,e,Ja,hv.sb Az,hle.sb Az,by omega,by omega,by omega,fun H4 s4=>?_⟩;refine ⟨_,Ja,_,Ja,_,Ja,_,Ja,_,_,Ja,Ja,(Z2),fun t1 Jn=>?_⟩;have s5:=Jb Jn (.tup [ue,.int (Lad.aB l.ps e+m)]);refine ⟨(Z1),fun t2 Jm=>?_⟩;have s6:=Jb Jm (.tup [.ref t1]);have al:=bY.length;have fl:=List.length_filter_le (fun p:Lad × Int=>e.lt p.1) l.ps;refine ⟨kt,t2,_,_,Ja,Ja,((s4.trans s5).trans s6).aP (SqT.of Qt),SqT.of Qt,by rw [Yi]; omega,fun c1 H7 s7 yJ=>?_⟩;have IG:=((s4.trans s5).trans s6).trans s7;refine ⟨_,Ja,1,Ja,b,_,Ja,(Az.trans IG).aP kU,fun c2 H8 s8 mL=>?_⟩;have e1:cutV (V.ref c::yr) (some 1) none=yr:=by
    have:=Pf (V.ref c::yr) 1;exact this
   rw [e1] at mL;have rl:=hbr.length;have rp:=(Lad.cons e m r).aN;have rp2:r.ps.length+1=(Lad.cons e m r).len:=by rw [<- Lad.cE]; rfl
   refine ⟨c1,c2,_,_,Ja,Ja,s8.aP yJ,mL,by rw [Yf,Yi]; omega,fun c3 H9 s9 xK=>?_⟩;refine q _ _ (((Az.trans IG).trans s8).trans s9) ?_;rw [Lad.cN];refine BP xK ?_;have z1:SB [] _ H9:=(s3.trans IG).trans (s8.trans s9);have z2:SB [] _ H9:=(s6.trans s7).trans (s8.trans s9);rw [List.append_assoc];refine Bears.append (bY.sb z1 Lad.aM) (.cons ?_ (hbr.sb ((Az.trans IG).trans (s8.trans s9)) Lad.aM));exact Dp.tup (z2.aP (SqT.of Qt)) (.cons (hle.sb (((Az.trans IG).trans s8).trans s9)) (.cons (.int _) .nil))
theorem zhf:FnScope [aY,ao] [aY,ao] (defScope HC):=fS
theorem zhw (G:Got P w K mg base bU [OU] 2 (Nv K)) (F:Fun K C0 C0 HC f fd):FnOk P w K mg base CX0 3 f fd [aY,ao] (Vp K):=by
 refine F.ok zhf (fun vs H Q E h=>?_) (fun _ A _ _ H vs Q E hr h=>?_)
 ·obtain ⟨v,u,l,k,rfl,_⟩:=h
  rfl
 obtain ⟨v,u,l,k,rfl,hv,hu,hd,hd2,hp,fB,q⟩:=h;refine ⟨_,Qe (Qj (bc G hr rfl (Qa (pe_lst (Qa (pv 0) (Qa (pv 1) Qb))) Qb))),?_⟩;have lp:=l.aN;have kp:=k.aN;rw [<- Lad.cE] at lp kp;refine ⟨_,Ja,_,Ja,(Z2),fun p hp=>?_⟩;have s1:=Jb hp (.lst [v,u]);refine ⟨p,_,[l,k],Ja,SqL.of Qt,.cons (hv.sb s1) (.cons (hu.sb s1) .nil),fun x hx=>?_,by simp; omega,fun x H' s2 hx=>?_⟩
 ·simp at hx;rcases hx with rfl | rfl <;> assumption
 ·rw [Lad.zg] at hx;exact q _ _ (s1.trans s2) hx
abbrev Vq:List Str:=[OU,dQ,aO,"pair"]
theorem pU:FnScope Vq [OU] (defScope EZ):=fS
theorem ziw (B:BI mg) (G:Got P w K mg base gK [dQ] 1 (Wz K Lad.enc)) (F:Fun K bU bU EZ f fd):FnOk P w K mg base CX0 2 f fd [OU] (Nv K):=by
 refine F.ok pU (fun vs H Q E h=>?_) (fun _ A _ _ H vs Q E hr h=>?_)
 ·obtain ⟨a,xs,ls,rfl,_⟩:=h
  rfl
 obtain ⟨a,xs,ls,rfl,hs,hb,hd,hn,q⟩:=h;have bq:=bh hr;refine ⟨_,Qc (ps_setLc2 (i:=1) (own:=[(aO,2),("pair",3)]) (vs1:=[3]) (wi1:=iTup K (tVar 2)) (g:=gName 2) (g1:=gName 3) (tt:=tYes) (tt1:=tYes) (te:=tVar 3) rfl pU.nd rfl rfl (sw_true rfl rfl rfl (by decide +kernel)) (pi_list (pv 0))
   (blkOk_by (N:=Vq) (sc:=defScope EZ) (by decide +kernel)) (by simp)
   (fun _ _ _ _ _=>pg_name (i:=2) pU.nd rfl (.inl rfl)) (fun _ _ _ _ _=>pts_nil)
   (fun _ _ _ _ _=>pi_tup (pv 2)) (fun _ _ _ _ _=>pg_name (i:=3) pU.nd rfl (.inl rfl)) (fun _ _ _ _ _=>pts_nil) (fun _ _ _ _ _=>pv 3))
  (Qe (Qj (bc G hr rfl (Qa (pe_callBK (z9z Lad.aG (b:=true) (by show A.units+3+110 < cLine; omega)) rfl B.sorted (by decide +kernel) (Qa (pv 1) Qb) (pk_cons pe_bl pk_nil)) Qb)))),?_⟩
 have xl:=hb.length;refine ⟨_,Ja,a,Ja,⟨xs,hs⟩,fun D hD=>?_⟩;refine DM (walk_list (xs:=xs)) (fun i H2=>SB [D] H H2/\∃ acc,H2 D=some (.lst acc)/\Bears K H Lad.aG acc ((ls.take i).flatMap Lad.ps)) ⟨SB.new hD _,[],Qt,.nil⟩ (fun i H2 hi h2=>(h2.1.drop hD).fu aL hs) (fun i x H2 H' hi h2 y=>?_) (fun H2 h2=>?_)
 ·obtain ⟨s2,acc,aW,Bm⟩:=h2;obtain ⟨rfl,ex⟩:=y;obtain ⟨l,el,hl⟩:=hb.get ex;obtain ⟨c,ys,rfl,mK,Cf⟩:=n4 hl;have yl:=Cf.length;refine ⟨rfl,?_⟩;refine ⟨_,Ja,c,Ja,⟨ys,(s2.drop hD).aP mK⟩,?_⟩;have iD:(ls.take (i+1)).flatMap Lad.ps=(ls.take i).flatMap Lad.ps++l.ps:=by rw [Yg,el]; simp
  have hle:((ls.take (i+1)).flatMap Lad.ps).length<=1900000:=by
   have h1:ls.flatMap Lad.ps=(ls.take (i+1)).flatMap Lad.ps++(ls.drop (i+1)).flatMap Lad.ps:=by rw [<- List.flatMap_append,List.take_append_drop]
   rw [h1,Yf] at hn;omega
  refine DM (walk_tup (xs:=ys)) (fun j H3=>SB [D] H H3/\∃ acc,H3 D=some (.lst acc)/\Bears K H Lad.aG acc ((ls.take i).flatMap Lad.ps++l.ps.take j)) ⟨s2,acc,aW,by simpa using Bm⟩ (fun j H3 hj h3=>(h3.1.drop hD).aP mK) (fun j x H3 H4 hj h3 y=>?_) (fun H3 h3=>?_)
  ·obtain ⟨s3,EI,bW,sq⟩:=h3;obtain ⟨rfl,ex⟩:=y;obtain ⟨p,ep,hp⟩:=Cf.get ex;refine ⟨rfl,?_⟩;refine ⟨_,Ja,EI,bW,?_,s3.trans (SB.set bW (by simp) _),_,Qt,?_⟩
   ·rw [sq.length];rw [iD] at hle;refine xE ?_;rw [Yf,Kx] at *;omega
   ·rw [Yg,ep,<- List.append_assoc];exact Bears.append sq (.cons hp .nil)
  ·obtain ⟨s3,EI,bW,sq⟩:=h3;refine ⟨s3,EI,bW,?_⟩;rw [iD];rw [yl,Yh] at sq;exact sq
 ·obtain ⟨s2,acc,aW,Bm⟩:=h2;rw [xl,Yh] at Bm;have hQ:=s2.drop hD;refine ⟨_,Ja,Ja,D,_,ls.flatMap Lad.ps,Ja,SqL.of aW,Bm.sb hQ Lad.aM,Lad.jO _,Lad.eV _,by omega,fun p hp=>?_,fun p zs hp hz=>?_⟩
  ·have:=Lad.eH p;obtain ⟨l,hl,hp⟩:=List.mem_flatMap.mp hp;have:=hd l hl;have:=l.aA p hp;omega
  have s3:=Jb hp (.lst zs);refine ⟨p,zs,Lad.lF (ls.flatMap Lad.ps),Ja,SqL.of Qt,hz.sb s3 Lad.aM,?_,fun b hb=>?_,fun c2 ws H3 s4 mL gI=>?_⟩
  ·rw [(Lad.bC _).length_eq]; omega
  ·refine Lad.bL ?_;obtain ⟨l,hl,hp⟩:=List.mem_flatMap.mp ((Lad.bC _).mem_iff.mp hb);have:=hd l hl;have:=l.aA b hp;omega
  ·exact q _ _ ((hQ.trans s3).trans s4) (BP mL gI)
abbrev WB:List Str:=[aO,aX,"pair"]
theorem tP:FnScope WB [aO,aX] (defScope Ft):=fS
theorem zg3 (B:BI mg) (F:Fun K ij ij Ft f fd):FnOk P w K mg base CX0 1 f fd [aO,aX] (Ir K):=by
 refine F.ok tP (fun vs H Q E h=>?_) (fun _ A _ _ H vs Q E hr h=>?_)
 ·obtain ⟨v,l,m,rfl,_⟩:=h
  rfl
 obtain ⟨v,l,m,rfl,hv,hp,oz,hm0,Ba,q⟩:=h;refine ⟨_,Qc (Qr (pt_cmpR op_eq (pv 1) Qg (nomark _)) (Qe (Qj (Ka Qb))) pss_nil)
  (Qe (Qj (pe_callTy call_tuple_of rfl B.tuple boot_tuple (Qa
   (pe_lc (own:=[("pair",2)]) (g:=gName 2) (tt:=tYes) (te:=tTup (tCons (tOp (rIxT K) (tVar 2) (tC (.int 0))) (tCons (tOp (rI CMulW fun i j=>.int (i*j)) (tOp (rIxT K) (tVar 2) (tC (.int 1))) (tVar 1)) tNil))) rfl tP.nd (pi_tup (pv 0))
    (blkOk_by (N:=WB) (sc:=defScope Ft) (by decide +kernel))
    (fun _ _ _ _ _=>pg_name (i:=2) tP.nd rfl (.inl rfl))
    (fun _ _ _ _ _=>pts_nil)
    (fun _ _ _ _ _=>Ka (Qa (Qm Ql (pv 2) Qg (fun _ _=>rfl)) (Qa (pe_op op_mulW (Qm Ql (pv 2) Qg (fun _ _=>rfl)) (pv 1)) Qb)))) Qb)))),?_⟩
 refine ⟨_,Ja,Ja,_,Ja,?_⟩;refine ite2 (fun c=>?_) (fun c=>?_)
 ·have c':V.int m=V.int 0:=Ks c
  injection c' with c'
  refine ⟨(Z0),fun t ht=>?_⟩;have e:l.bH m=.nil:=if_pos c';exact q _ _ (SB.new ht _) (by rw [e]; exact HV (SqT.of Qt))
 ·have c':¬ V.int m=V.int 0:=of_decide_eq_false (Bool.eq_false_iff.mpr c);have c2:¬ m=0:=fun z=>c' (by rw [z]);have e:l.bH m=Lad.ofPs (l.ps.map fun p=>(p.1,p.2*m)):=if_neg c2;obtain ⟨a,xs,rfl,mX,jU⟩:=n4 hv;have xl:=jU.length;have lp:=l.aN;rw [<- Lad.cE] at lp;refine ⟨_,Ja,a,Ja,⟨xs,mX⟩,fun D hD=>?_⟩;refine lc_it (walk_tup (xs:=xs)) (fun i H2=>SB [D] H H2/\∃ acc,H2 D=some (.lst acc)/\Bears K H2 Lad.aG acc ((l.ps.take i).map fun p=>(p.1,p.2*m))) ⟨SB.new hD _,[],Qt,.nil⟩ (fun i H2 hi h2=>(h2.1.drop hD).aP mX) (fun i x H2 H' hi h2 y=>?_) (fun H2 h2=>?_)
  ·obtain ⟨s2,acc,aW,bY⟩:=h2;obtain ⟨rfl,ex⟩:=y;have hQ:=s2.drop hD;obtain ⟨b1,eb,sk⟩:=jU.get ex;obtain ⟨ad,ux,rfl,fA,D9⟩:=sU sk;have bz:=oz b1 (Qu eb);have al:=bY.length;rw [Ye,Kx] at al;refine ⟨rfl,?_⟩;refine ⟨_,Ja,ad,_,_,_,Ja,Ja,hQ.aP fA,atI_nat (j:=0) rfl,_,Ja,ad,_,_,_,Ja,Ja,hQ.aP fA,atI_nat (j:=1) rfl,_,Ja,_,_,Ja,Ja,wide_mul (a:=2000) (b:=2000) (by omega) (by omega) (by decide) (by decide) (by decide),(Z2),fun t ht=>?_⟩;have t3:=SB.new (ps:=[D]) ht (.tup [ux,.int (b1.2*m)]);have bW:(upd H' t (.tup [ux,.int (b1.2*m)])) D=some (.lst acc):=by rw [upd_ne (ne_of_none aW ht)]; exact aW
   refine ⟨acc,bW,xE (by omega),?_⟩;have t4:=SB.set (ps:=[D]) bW (by simp) (.lst (acc++[.ref t]));refine ⟨(s2.trans t3).trans t4,_,Qt,?_⟩;rw [Yg,eb,Yj];exact Bears.append ((bY.sb t3 Lad.aM).sb t4 Lad.aM) (.cons (Dp.tup (t4.aP (SqT.of Qt)) (.cons (((D9.sb hQ).sb t3).sb t4) (.cons (.int _) .nil))) .nil)
  ·obtain ⟨s2,acc,aW,bY⟩:=h2;rw [xl,Yh] at bY;refine ⟨D,acc,Ja,.inl ⟨SqL.of aW,fun t ht=>?_⟩⟩;have t3:=Jb ht (.tup acc);refine q _ _ ((s2.drop hD).trans t3) ?_;rw [e];exact BP (SqT.of Qt) (bY.sb t3 Lad.aM)
abbrev zlh:List Str:=[aY,ao,wa,"exponent",aX]
theorem pJ:FnScope zlh [aY,ao] (defScope HH):=fS
theorem zia (B:BI mg) (O:Own K mg "NoRest" C) (GL:Got P w K mg base cS [aY,ao] 1 (Ah K)) (GA:Got P w K mg base d9 [aY,ao] 1 (V0 K)) (F:Fun K CW CW HH f fd):FnOk P w K mg base (L2.CX P w) 2 f fd [aY,ao] (Vt K C):=by
 refine F.okX pJ (fun vs H Q E h=>?_) (fun _ A _ _ H vs Q E hr h=>?_)
 ·obtain ⟨v,u,l,k,rfl,_⟩:=h
  rfl
 obtain ⟨v,u,l,o,rfl,hv,hu,hd,hd2,hp,fB,q,qE⟩:=h;have bq:=bh hr;refine ⟨_,Qc (Qr (Qo (bc GL hr rfl (Qa (pv 1) (Qa (pv 0) Qb)))) (Qe (ps_raise rfl (takes_of rfl rfl rfl rfl) (pmk_own PySem.F.excBase_ValueError O.q O.gC O.k (raises_own O.s O.t) rfl))) pss_nil)
  (PSs.nox (Qc (ps_set (i:=2) pJ.nd rfl (.inl rfl) (bc GA hr rfl (Qa (pv 0) (Qa (pv 1) Qb))))
  (Qc (Qr (PW.pt (Kk (pt_cmpR op_eq (pv 2) (Qs call_len_seq rfl B.len PySem.boot_len (Qa (pv 0) Qb)) (nomark _)) (pw_or1 (pt_cmpR (op_neD (Dm hr)) (Qm Ql (Qm Ql (pv 0) (pv 2) (fun _ _=>rfl)) Qg (fun _ _=>rfl)) (Qm Ql (Qm Ql (pv 1) (pv 2) (fun _ _=>rfl)) Qg (fun _ _=>rfl)) (nomark _)))))
   (Qe (Qj (pe_slice FF (pv 1) (po_some (pv 2)) po_none))) pss_nil)
  (Qc (ps_asg (Qm Ql (pv 1) (pv 2) (fun _ _=>rfl)) (pg_tup rfl (Qi (pg_name (i:=3) pJ.nd rfl (.inl rfl)) (Qi (pg_name (i:=4) pJ.nd rfl (.inl rfl)) pgs_nil))))
  (Qe (Qj (pe_op Aj (Ka (Qa (Ka (Qa (pv 3) (Qa (pe_op op_sub (pv 4) (Qm Ql (Qm Ql (pv 0) (pv 2) (fun _ _=>rfl)) Qg (fun _ _=>rfl))) Qb))) Qb)) (pe_slice FF (pv 1) (po_some (pe_op Ko (pv 2) Qg)) po_none)))))))),?_⟩
 refine ⟨_,Ja,_,Ja,u,v,o,l,Ja,hu,hv,by omega,_,Ja,?_⟩;cases F9:o.lt l with
 | true=>exact iteT (qE F9)
 | false =>
 refine iteF ?_;have q:=q F9;obtain ⟨a,xs,rfl,mX,jU⟩:=n4 hv;obtain ⟨b,ys,rfl,kU,jT⟩:=n4 hu;have xl:=jU.length;have yl:=jT.length;refine ⟨_,Ja,_,Ja,_,_,l,o,Ja,hv,hu,by omega,by omega,by omega,by omega,?_⟩;obtain ⟨kl,ko,_,hle,vI,Sn⟩:=Lad.sJ l o;rw [F9] at hle;have hle:=hle.symm;generalize l.alh o=k at *;have s2:SB [] H H:=SB.refl;have XJ:∀ (H5:Hp),SB [] H H5->l.rst o=Lad.ofPs (o.ps.drop k)->∀ (c:Addr) (H':Hp),SB [] H5 H'->SqT K H' c (cutV ys (some (k:Int)) none)->Q (.ref c) H':=by
  intro H5 s5 e c H' s' hc;rw [Pf] at hc;refine q _ _ ((s2.trans s5).trans s') ?_;rw [e];exact BP hc ((jT.drop k).sb ((s2.trans s5).trans s') Lad.aM)
 refine ⟨_,Ja,_,Ja,a,xs,Ja,.inr (s2.aP mX),Ja,_,Ja,?_⟩;by_cases c:k=xs.length
 ·have e1:decide (V.int (k:Int)=V.int (xs.length:Nat))=true:=Ya (by rw [c]);rw [e1];refine iteT (iteT ?_);refine ⟨_,Ja,_,Ja,_,Ja,b,_,Ja,s2.aP kU,fun c2 H8 s8 mL=>?_⟩;refine XJ H SB.refl ?_ c2 H8 s8 mL;rw [vI,List.drop_eq_nil_of_le (show l.ps.length<=k by omega)];exact Lad.iO _
 have e1:decide (V.int (k:Int)=V.int (xs.length:Nat))=false:=Qz (fun z=>by injection z with z; omega);rw [e1];refine iteF ?_;have ko2:k < o.ps.length:=by
  rcases Nat.lt_or_ge k o.ps.length with h | h
  ·exact h
  ·rw [Lad.DK ko kl (by omega)] at hle;rw [show decide (k=o.ps.length)=true by simp; omega,show decide (k < l.ps.length)=true by simp; omega] at hle;cases hle
 have B5:xs[k]?=some xs[k]:=Kp (by omega);have B4:ys[k]?=some ys[k]:=Kp (by omega);obtain ⟨p1,EC,gA⟩:=jU.get B5;obtain ⟨p2,yZ,A8⟩:=jT.get B4;obtain ⟨a1,u1,ea1,uB,xG⟩:=sU gA;obtain ⟨a2,u2,ea2,fA,qh⟩:=sU A8;rw [ea1] at B5 gA;rw [ea2] at B4 A8;have d1:=l.aA p1 (Qu EC);have d2:=o.aA p2 (Qu yZ);rw [Lad.AM yZ EC] at hle;rw [Lad.x8 EC yZ] at vI;have Sn:=Sn p1 p2 EC yZ;by_cases he:p1.1=p2.1
 ·rw [if_pos he.symm] at hle;rw [if_pos he] at vI;have hm:¬ p1.2=p2.2:=fun z=>Sn ⟨he,z⟩
  ·rw [if_neg hm] at vI;refine ⟨_,Ja,_,Ja,a,xs,_,_,Ja,Ja,s2.aP mX,atI_nat B5,a1,_,_,_,Ja,Ja,s2.aP uB,atI_nat (j:=0) rfl,_,Ja,_,Ja,b,ys,_,_,Ja,Ja,s2.aP kU,atI_nat B4,a2,_,_,_,Ja,Ja,s2.aP fA,atI_nat (j:=0) rfl,p1.1.enc,p2.1.enc,xG.sb s2,qh.sb s2,Lad.bL (by omega),Lad.bL (by omega),_,Ja,?_⟩;rw [neF he];refine iteF ?_;refine ⟨_,Ja,_,Ja,b,ys,_,_,Ja,Ja,s2.aP kU,atI_nat B4,a2,_,Ja,s2.aP fA,Ja,_,_,Ja,_,_,Ja,Ja,?_⟩;refine ⟨_,Ja,_,Ja,_,Ja,_,Ja,a,xs,_,_,Ja,Ja,s2.aP mX,atI_nat B5,a1,_,_,_,Ja,Ja,s2.aP uB,atI_nat (j:=1) rfl,_,_,Ja,Ja,(Z2),fun t1 Jn=>?_⟩;have s5:=Jb Jn (.tup [u2,.int (p2.2-p1.2)]);refine ⟨(Z1),fun t2 Jm=>?_⟩;have s6:=Jb Jm (.tup [.ref t1]);have N7:=(s2.trans s5).trans s6;refine ⟨_,Ja,_,Ja,_,_,Ja,Ja,_,Ja,b,_,Ja,N7.aP kU,fun c2 H8 s8 mL=>?_⟩;have xK:SqT K H8 c2 (ys.drop (k+1)):=by
    have:=Pf ys (k+1);rw [<- this];exact mL
   have op:=o.aN;rw [<- Lad.cE] at op;refine ⟨t2,c2,_,_,Ja,Ja,s8.aP (SqT.of Qt),xK,by rw [Yi,List.length_drop]; omega,fun c4 H9 s9 hc4=>?_⟩;have N5:=s8.trans s9;refine q _ _ (N7.trans N5) ?_;rw [vI];have z:=BP (bs:=(p1.1,p2.2-p1.2)::o.ps.drop (k+1)) hc4 (.cons ?_ ((jT.drop (k+1)).sb (N7.trans N5) Lad.aM))
   ·exact z
   ·rw [he];exact Dp.tup ((s6.trans N5).aP (SqT.of Qt)) (.cons (qh.sb (N7.trans N5)) (.cons (.int _) .nil))
 ·rw [if_neg he] at vI;refine ⟨_,Ja,_,Ja,a,xs,_,_,Ja,Ja,s2.aP mX,atI_nat B5,a1,_,_,_,Ja,Ja,s2.aP uB,atI_nat (j:=0) rfl,_,Ja,_,Ja,b,ys,_,_,Ja,Ja,s2.aP kU,atI_nat B4,a2,_,_,_,Ja,Ja,s2.aP fA,atI_nat (j:=0) rfl,p1.1.enc,p2.1.enc,xG.sb s2,qh.sb s2,Lad.bL (by omega),Lad.bL (by omega),_,Ja,?_⟩;rw [show (!PyData.eqv p1.1.enc p2.1.enc)=true by rw [Lad.bw]; simp [he]];refine iteT ?_;refine ⟨_,Ja,_,Ja,_,Ja,b,_,Ja,s2.aP kU,fun c2 H8 s8 mL=>?_⟩;refine XJ H SB.refl ?_ c2 H8 s8 mL;have e2:o.ps[k]=p2:=(Kq yZ).2;rw [vI,List.drop_eq_getElem_cons ko2,e2]
  rfl
theorem zho:FnScope [aO] [aO] (defScope GX):=fS
theorem zh6 (F:Fun K pf pf GX f fd):FnOk P w K mg base CX0 1 f fd [aO] (Pj K):=by
 refine F.ok zho (fun vs H Q E h=>?_) (fun _ A _ _ H vs Q E hr h=>?_)
 ·obtain ⟨v,l,rfl,_⟩:=h
  rfl
 obtain ⟨v,l,rfl,hv,q⟩:=h;refine ⟨_,Qe (Qj (Ka (Qa (Ka (Qa (pv 0) (Qa Qg Qb))) Qb))),?_⟩;refine ⟨_,Ja,(Z2),fun p1 h1=>?_⟩;refine ⟨(Z1),fun p2 h2=>?_⟩;have e1:=Jb h1 (.tup [v,.int 1]);have e2:=Jb h2 (.tup [.ref p1]);exact q _ _ (e1.trans e2) (Vx (SqT.of Qt) (e2.aP (SqT.of Qt)) ((hv.sb e1).sb e2))
abbrev UR:List Str:=[aY,ao,"exponent","kept","pair"]
theorem lX:FnScope UR [aY,ao] (defScope EW):=fS
theorem zfv (B:BI mg) (GL:Got P w K mg base cS [aY,ao] 1 (Ah K)) (GN:Got P w K mg base aF [aX] 1 (V9 K)) (GW:Got P w K mg base pf [aO] 1 (Pj K)) (GH:Got P w K mg base gM [aY,ao] 2 (Ik K)) (GB:Got P w K mg base C0 [aY,ao] 3 (Vp K)) (F:Fun K u5 u5 EW f fd):FnOk P w K mg base CX0 4 f fd [aY,ao] (V2 K):=by
 refine F.ok lX (fun vs H Q E h=>?_) (fun _ A _ _ H vs Q E hr h=>?_)
 ·obtain ⟨v,u,l,k,rfl,_⟩:=h
  rfl
 obtain ⟨v,u,l,k,rfl,hv,hu,hd,hd2,hp,fB,q⟩:=h;have B7:=hr.mono (j:=1) (by decide);have RK:=hr.mono (j:=2) (by decide);refine ⟨_,Qc (Qr (Qp (pt_truth (pv 1) (by intro _; rfl))) (Qe (Qj (bc GB hr rfl (Qa (pv 0) (Qa (bc GN B7 rfl (Qa Qg Qb)) Qb))))) pss_nil)
  (Qc (ps_set (i:=2) lX.nd rfl (.inr rfl) (Qm Ql (Qm Ql (pv 1) Qg (fun _ _=>rfl)) Qg (fun _ _=>rfl)))
  (Qc (ps_set (i:=3) lX.nd rfl (.inl rfl) (pe_callTy call_tuple_of rfl B.tuple boot_tuple (Qa
   (pe_lc (own:=[("pair",4)]) (g:=gName 4) (tt:=tB (tCall (Ah K) [] E0 (tCons (tVar 2) (tCons (tOp (rIxT K) (tVar 4) (tC (.int 0))) tNil)))) (te:=tVar 4) rfl lX.nd (pi_tup (pv 0))
    (blkOk_by (N:=UR) (sc:=defScope EW) (by decide +kernel))
    (fun _ _ _ _ _=>pg_name (i:=4) lX.nd rfl (.inl rfl))
    (fun _ _ _ _ _=>pts_one (Qo (bc GL B7 rfl (Qa (pv 2) (Qa (Qm Ql (pv 4) Qg (fun _ _=>rfl)) Qb)))))
    (fun _ _ _ _ _=>pv 4)) Qb)))
  (Qe (Qj (bc GB hr rfl (Qa (pv 3) (Qa (bc GW B7 rfl (Qa (bc GH RK rfl (Qa (pv 2) (Qa (bc GN B7 rfl (Qa Qg Qb)) Qb))) Qb)) Qb))))))),?_⟩
 obtain ⟨b,ys,rfl,kU,jT⟩:=n4 hu;refine ⟨_,Ja,_,.inr (.inl ⟨ys,kU,Ja⟩),?_⟩;cases k with
 | nil =>
  cases jT;refine iteT ?_;refine ⟨_,Ja,1,Ja,fun n1 H1 s1 z9=>?_⟩;rw [Lad.vy] at z9;exact ⟨v,n1,l,Lad.cV,Ja,hv.sb s1,z9,by omega,by decide,by omega,by decide,fun x H' s2 hx=>q x H' (s1.trans s2) hx⟩
 | cons e m r =>
  rw [show (Lad.cons e m r).ps=(e,m)::r.ps from rfl] at jT;cases jT with
  | @cons y0 yr _ _ h0 hbr =>
  refine iteF ?_;obtain ⟨c,ue,rfl,mK,hle⟩:=sU h0;refine ⟨_,Ja,b,_,_,_,Ja,Ja,kU,atI_nat (j:=0) rfl,c,_,_,_,Ja,Ja,mK,atI_nat (j:=0) rfl,?_⟩;obtain ⟨a,xs,rfl,mX,jU⟩:=n4 hv;have bl:=jU.length;have lp:=l.aN;rw [<- Lad.cE] at lp;have ed:e.deep < (Lad.cons e m r).deep:=Lad.aA (.cons e m r) (e,m) (bF ..);have ep:e.parts<=(Lad.cons e m r).parts:=by show e.parts<=1+e.parts+r.parts; omega
  refine ⟨_,Ja,a,Ja,⟨xs,mX⟩,fun D hD=>?_⟩;refine lc_it (walk_tup (xs:=xs)) (fun i H2=>SB [D] H H2/\∃ acc,H2 D=some (.lst acc)/\Bears K H2 Lad.aG acc ((l.ps.take i).filter fun p=>e.lt p.1)) ⟨SB.new hD _,[],Qt,.nil⟩ (fun i H2 hi h2=>(h2.1.drop hD).aP mX) (fun i x H2 H' hi h2 y=>?_) (fun H2 h2=>?_)
  ·obtain ⟨s2,acc,aW,bY⟩:=h2;obtain ⟨rfl,ex⟩:=y;have hQ:=s2.drop hD;obtain ⟨b1,eb,sk⟩:=jU.get ex;obtain ⟨ad,ux,rfl,fA,D9⟩:=sU sk;refine ⟨rfl,?_⟩;refine ⟨_,Ja,_,Ja,ad,_,_,_,Ja,Ja,hQ.aP fA,atI_nat (j:=0) rfl,ue,ux,e,b1.1,Ja,hle.sb hQ,D9.sb hQ,by omega,_,Ja,?_⟩;have al:=bY.length;have fl:=List.length_filter_le (fun p:Lad × Int=>e.lt p.1) (l.ps.take i);rw [Kx] at fl;cases hc:e.lt b1.1 with
   | true =>
    refine iteT ?_;refine ⟨_,Ja,acc,aW,xE (by omega),?_⟩;have t9:=SB.set (ps:=[D]) aW (by simp) (.lst (acc++[.ref ad]));refine ⟨s2.trans t9,_,Qt,?_⟩;rw [Yg,eb,List.filter_append];refine Bears.append (bY.sb t9 Lad.aM) ?_;have:([b1]:List (Lad × Int)).filter (fun p=>e.lt p.1)=[b1]:=by simp [hc]
    show Bears K _ Lad.aG _ (([b1]:List (Lad × Int)).filter (fun p=>e.lt p.1));rw [this];exact .cons (fK t9 _ _ (Lad.aM _) (fK hQ _ _ (Lad.aM _) sk)) .nil
   | false =>
    refine iteF ?_;refine ⟨s2,acc,aW,?_⟩;rw [Yg,eb,List.filter_append];simpa [hc] using bY
  ·obtain ⟨s2,acc,aW,bY⟩:=h2;rw [bl,Yh] at bY;have hQ:=s2.drop hD;refine ⟨D,acc,Ja,.inl ⟨SqL.of aW,fun kt Oz=>?_⟩⟩;have s3:=Jb Oz (.tup acc);have Az:=hQ.trans s3;have kept:LA K (upd H2 kt (.tup acc)) (.ref kt) (Lad.ofPs (l.ps.filter fun p=>e.lt p.1)):=BP (SqT.of Qt) (bY.sb s3 Lad.aM);refine ⟨_,Ja,_,Ja,1,Ja,fun n1 H4 s4 z9=>?_⟩;rw [Lad.vy] at z9;refine ⟨ue,n1,e,Lad.cV,Ja,(hle.sb Az).sb s4,z9,by omega,by decide,by omega,by decide,fun x1 H5 s5 yB=>?_⟩;refine ⟨x1,_,Ja,yB,fun x2 H6 s6 oy=>?_⟩;have b1:=Lad.gD e Lad.cV;have b2:=Lad.iG (n:=29) (l:=e) (k:=Lad.cV) (by omega) (by decide);have b3:=Lad.jZ l fun p=>e.lt p.1;have b4:Lad.cV.parts=1:=rfl;refine ⟨.ref kt,x2,_,_,Ja,((kept.sb s4).sb s5).sb s6,oy,Yb (Lad.kW _ hd) (by decide),by show max (1+(Lad.cL e Lad.cV).deep) 0<=30; omega,by omega,by show 1+(Lad.cL e Lad.cV).parts+0<=800000; omega,fun x H' s7 hx=>?_⟩;exact q x H' (((Az.trans s4).trans s5).trans (s6.trans s7)) hx
theorem ziy:FnScope [aY,ao] [aY,ao] (defScope Hv):=fS
theorem zfq (GW:Got P w K mg base pf [aO] 1 (Pj K)) (GH:Got P w K mg base gM [aY,ao] 2 (Ik K)) (F:Fun K mZ mZ Hv f fd):FnOk P w K mg base CX0 3 f fd [aY,ao] (WL K):=by
 refine F.ok ziy (fun vs H Q E h=>?_) (fun _ A _ _ H vs Q E hr h=>?_)
 ·obtain ⟨v,u,e,m,r,k,rfl,_⟩:=h
  rfl
 obtain ⟨v,u,e,m,r,k,rfl,hv,hu,hd,hd2,hp,fB,q⟩:=h;have B7:=hr.mono (j:=1) (by decide);refine ⟨_,Qc (Qr (Qp (pt_truth (pv 1) (by intro _; rfl))) (Qe (Qj (pv 0))) pss_nil)
  (Qe (Qj (bc GW B7 rfl (Qa (bc GH hr rfl (Qa (Qm Ql (Qm Ql (pv 0) Qg (fun _ _=>rfl)) Qg (fun _ _=>rfl)) (Qa (pv 1) Qb))) Qb)))),?_⟩
 obtain ⟨b,ys,rfl,kU,jT⟩:=n4 hu;refine ⟨_,Ja,_,.inr (.inl ⟨ys,kU,Ja⟩),?_⟩;cases k with
 | nil =>
  cases jT;refine iteT ?_;exact ⟨_,Ja,q v H SB.refl hv⟩
 | cons e2 m2 r2 =>
  rw [show (Lad.cons e2 m2 r2).ps=(e2,m2)::r2.ps from rfl] at jT;cases jT with
  | @cons y0 yr _ _ h0 hbr =>
  refine iteF ?_;obtain ⟨a,xs,rfl,mX,jU⟩:=n4 hv;rw [show (Lad.cons e m r).ps=(e,m)::r.ps from rfl] at jU;cases jU with
  | @cons x0 xr _ _ g0 gbr =>
  obtain ⟨c,ue,rfl,mK,hle⟩:=sU g0;have ed:e.deep < (Lad.cons e m r).deep:=Lad.aA (.cons e m r) (e,m) (bF ..);have ep:e.parts<=(Lad.cons e m r).parts:=by show e.parts<=1+e.parts+r.parts; omega
  refine ⟨_,Ja,a,_,_,_,Ja,Ja,mX,atI_nat (j:=0) rfl,c,_,_,_,Ja,Ja,mK,atI_nat (j:=0) rfl,_,Ja,ue,_,e,_,Ja,hle,hu,by omega,by omega,by omega,by omega,fun x1 H1 s1 yB=>?_⟩;exact ⟨x1,_,Ja,yB,fun x H' s2 hx=>q x H' (s1.trans s2) hx⟩
abbrev ZT:List Str:=[af,aa]
theorem zfx:FnScope ZT [af,aa] (defScope Ht):=fS
theorem zhr {ae ai bI:Addr} (B:BI mg) (lh:GotX P w K mg base bQ [af,aa] (72) (Iy K ae ai)) (oZ:GotX P w K mg base cX [af,aa] (72) (ND K ae ai bI)) (iL:Got P w K mg base cg [af,bj,aa] (45) (Ak K ae 20)) (zE:Got P w K mg base eY [af] (47) (Qk K ae ai)) (F:Fun K CY CY Ht f fd):FnOk P w K mg base (L2.CX P w) (73) f fd [af,aa] (VH K ae ai bI):=by
 refine F.okX zfx (fun vs H Q E h=>?_) (fun _ A _ s H vs Q E hr h=>?_)
 ·obtain ⟨v,w,b,ρ,g,rfl,_⟩:=h
  rfl
 obtain ⟨v,w,b,ρ,g,rfl,hv,ok,ow,hg,hd,hp,hk,he,fC,q⟩:=h;have bq:=bh hr;refine ⟨_,Qc (Kf (jb lh (Hm hr) rfl (takes_of rfl rfl rfl rfl) (Qa (pv 0) (Qa (pv 1) Qb))))
  (Qc (Kf (jb oZ (Hm hr) rfl (takes_of rfl rfl rfl rfl) (Qa (pv 0) (Qa (pv 1) Qb))))
  (Qe (Qj (bc iL (Hm hr) rfl (Qa (pv 0) (Qa (bc zE (Hm hr) rfl (Qa (pv 0) Qb)) (Qa (pv 1) Qb))))))),?_⟩
 have b8:=ok.len;refine ⟨_,Ja,_,Ja,v,w,b,g,b.names,Ja,hv,hg,by omega,by omega,by omega,hk,by rw [Ye]; omega,fun _ H1 s1=>?_,fun n hn=>absurd ?_ hn.out⟩
 rotate_left
 ·obtain ⟨x,hx,e⟩:=Qx hn.mem;exact e ▸ hk x hx
 refine ⟨_,Ja,_,Ja,v,w,b,g,Ja,hv.dI s1,ok,hg.sb s1,by omega,by omega,hk,fun _ H2 s2=>?_,fun n hn=>absurd ?_ hn.out⟩
 rotate_left
 ·obtain ⟨x,hx,e⟩:=Qx hn.mem;exact e ▸ he x hx
 have iX:=s1.trans s2;refine ⟨_,Ja,_,Ja,v,b,ρ,Ja,hv.dI iX,ok,ow,fun d es H3 s3 nd hw eo=>?_⟩;have g7:=iX.trans s3;refine ⟨_,Ja,v,w,d,b,ρ,es,g,Ja,hv.dI g7,by omega,hw,hg.sb g7,hd,fC es (fun n hn Sj=>(eo.mem n).mpr ⟨hn,Sj⟩),hp,fun x H' s hx=>q x H' (g7.trans s) hx⟩
abbrev UT:List Str:=[af,"found",aI,aR]
theorem lV:FnScope UT [af] (defScope Fl):=fS
theorem zh1 {ae ai:Addr} (B:BI mg) (zI:Got P w K mg base cI [af] (24) (P2 K ae ai)) (sP:GotX P w K mg base a5 [af,aI] (5) (NO K ae ai)) (zJ:Got P w K mg base pj [af,bj,aR] (46) (HX K ae)) (F:Fun K eY eY Fl f fd):FnOk P w K mg base CX0 (47) f fd [af] (Qk K ae ai):=by
 refine F.ok lV (fun vs H Q E h=>?_) (fun _ A _ _ H vs Q E hr h=>?_)
 ·obtain ⟨v,b,ρ,rfl,_⟩:=h
  rfl
 obtain ⟨v,b,ρ,rfl,hv,ok,ow,q⟩:=h;have bq:=bh hr;refine ⟨_,Qc (ps_set (i:=1) lV.nd rfl (.inr rfl) pe_dnewK)
  (Qc (ps_for PassesOwn.never rfl (pi_list (bc zI (Hm hr) rfl (Qa (pv 0) Qb))) (pg_name (i:=2) lV.nd rfl (.inl rfl))
   (Qe (ps_dput (u1 hr) (pv 1) (pv 2) (Qs (zex rfl (by show A.units+3+110 < cLine; omega)) rfl B.max boot_max (Qa (pe_lc (own:=[(aR,3)]) (g:=(gName 3)) (tt:=tYes) (te:=(tCall (HX K ae) [] E0 (tCons (tVar 0) (tCons (tVar 1) (tCons (tVar 3) tNil))))) rfl lV.nd (pi_list (Ii sP (Hm hr) rfl (Qa (pv 0) (Qa (pv 2) Qb)))) (blkOk_by (N:=UT) (sc:=defScope Fl) (by decide +kernel)) (fun _ _ _ _ _=>(pg_name (i:=3) lV.nd rfl (.inl rfl))) (fun _ _ _ _ _=>pts_nil) (fun _ _ _ _ _=>(bc zJ (Hm hr) rfl (Qa (pv 0) (Qa (pv 1) (Qa (pv 3) Qb)))))) Qb)) rfl)))
  (Qe (Qj (pv 1)))),?_⟩
 have iV:=sizeLine_eq;have b8:=ok.len;intro D nD;have t1:=Jb nD (.dK []);have sA:=n6 t1;generalize upd H D _=H1 at t1 sA;refine ⟨_,Ja,v,b,Ja,hv.dI t1,ok,fun l es H2 s2 nl hl eo=>?_⟩;have e8:=eo.len;refine ⟨l,Ja,⟨_,SqL.of hl⟩,?_⟩;have Dl:D ≠ l:=fun z=>by rw [<- z,sA] at nl; cases nl
 refine for_it (walk_list (xs:=es.map V.str)) (fun i σ H3=>SB [D] H2 H3/\(∃ o2:Option V,σ=[some v,some (.ref D),o2,none])/\qG K H3 D ρ (es.take i)) ⟨SB.refl,⟨none,Ja⟩,[],s2.keep _ _ sA aL,.nil⟩ (fun i σ H3 hi h3=>h3.1.fu (by simpa using fun z=>Dl z.symm) (SqL.of hl)) (fun i x σ Hq H3 hi h3 y=>?_) (fun σ H3 h3=>?_)
 ·obtain ⟨s3,⟨o2,rfl⟩,hR⟩:=h3;obtain ⟨rfl,ey⟩:=y;rw [List.getElem?_map] at ey;obtain ⟨n,en,rfl⟩:=Kr ey;have g7:SB [] H H3:=((t1.trans s2).nil.trans s3).drop nD;have hn:=(eo.mem n).mp (Qu en);obtain ⟨kd,eg⟩:=Bk.dW hn.1;obtain ⟨km,rfl⟩:=Bk.get_some eg;obtain ⟨kn,r4,rr⟩:=ok.kd kd km;refine ⟨_,Ja,_,Ja,v,b,kd.n,Ja,hv.dI g7,by omega,fun k hk=>Yb (ok.kd k hk).2.1 (by decide),fun k' e' ll us H4 s4 AJ sj kg=>?_,fun z=>by rw [eg] at z; cases z⟩;rw [eg] at e';cases e';have ul:=kg.length;have Dll:D ≠ ll:=fun z=>by
   obtain ⟨_,h1,_⟩:=hR;rw [<- z,h1] at AJ; cases AJ
  have Bo:=hR.dI s4;have tW:=g7.trans s4;refine ⟨ll,Ja,⟨_,SqL.of sj⟩,fun D2 FY=>?_⟩;refine tu (walk_list (xs:=us)) FY (by rw [ul,Yk]; omega) (fun j ws H5=>Bears K H5 Lad.enc ws (((iZ::kd.rs).take j).map (gW b ρ))) .nil (fun H5 s5=>s5.fu aL (SqL.of sj)) (fun j ws H5 H6 s6 h=>h.sb s6 Lad.ag) (fun Pv j x Hq H5 ws hj s5 y vP Jl fin skip=>?_) (fun ws H5 s5 eW vP Jl=>?_)
  ·obtain ⟨rfl,ey⟩:=y;obtain ⟨r,er,Jr⟩:=kg.get ey;have rm:=Qu er;have rf:uS b ρ (es.take i) r:=by
    rcases Qv rm with rfl | rm
    ·exact Pk b ρ _
    ·exact ow.fit kd km hn.2 _ (fun n h=>eo.ord i _ en n h) r rm
   have rp:r.1.parts+r.2.parts<=4:=by
    rcases Qv rm with rfl | rm
    ·decide
    ·exact (rr r rm).1.2.2
   have XZ:=qL r.1;have XY:=qL r.2;refine ⟨rfl,_,Ja,_,Ja,_,Ja,v,x,D,b,ρ,es.take i,r,Ja,(hv.dI tW).dI s5,by omega,Bo.dI s5,fK s5 _ _ (Ru.ag _) Jr,by omega,by omega,by omega,by omega,rf,fun z H6 s6 hz=>fin z H6 s6 ?_⟩;rw [Yg,er,Yj];exact (vP.sb s6 Lad.ag).append (.cons hz .nil)
  ·rw [ul,Yh,Ky,show gW b ρ iZ=Lad.cV from HQ b ρ] at vP;have Kz:=Bo.dI s5;refine ⟨D2,ws,Lad.cV,kd.rs.map (gW b ρ),Ja,SqL.of eW,vP,fun l JF=>?_,fun x hx=>?_⟩
   ·rcases Qv JF with rfl | JF
    ·decide
    ·obtain ⟨r,rm,rfl⟩:=Qx JF;exact ow.deep kd km hn.2 r rm
   rw [<- ow.own kd km hn.2] at hx;have fresh:kd.n ∉ es.take i:=fun z=>by
    obtain ⟨j,hj,ej⟩:=List.getElem_of_mem z;rw [List.getElem_take] at ej;rw [Kx] at hj;have e2:=List.getElem_of_getElem? en;obtain ⟨yE,e2⟩:=e2;exact List.pairwise_iff_getElem.mp eo.nd j i (by omega) yE (by omega) (ej.trans e2.symm)
   obtain ⟨H6,RO,s6,hR7⟩:=Kz.put fresh (by rw [Kx]; omega) hx;refine ⟨_,Ja,_,Ja,D,H6,Ja,RO,?_,⟨_,Ja⟩,?_⟩
   ·exact (s3.trans (s4.trans s5).nil).trans s6
   ·rw [Yg,en];exact hR7
 ·obtain ⟨s3,⟨o2,rfl⟩,hR⟩:=h3;rw [Ye,Yh] at hR;exact ⟨_,Ja,q D es _ (((t1.trans s2).nil.trans s3).drop nD) nD hR eo⟩
abbrev zjn:List Str:=[af,bj,aR,"once","each"]
theorem tT:FnScope zjn [af,bj,aR] (defScope G0):=fS
theorem zfu {ae:Addr} (B:BI mg) (MS:Got P w K mg base u5 [aY,ao] (4) (V2 K)) (iL:Got P w K mg base cg [af,bj,aa] (45) (Ak K ae 20)) (F:Fun K pj pj G0 f fd):FnOk P w K mg base CX0 (46) f fd [af,bj,aR] (HX K ae):=by
 refine F.ok tT (fun vs H Q E h=>?_) (fun _ A _ s H vs Q E hr h=>?_)
 ·obtain ⟨v,u,d,b,ρ,ns,r,rfl,_⟩:=h
  rfl
 obtain ⟨v,u,d,b,ρ,ns,r,rfl,hv,hl,hw,hu,d1,d2,p1,p2,fC,q⟩:=h;refine ⟨_,Qc (ps_asg (pv 2) (pg_tup rfl (Qi (pg_name (i:=3) tT.nd rfl (.inl rfl)) (Qi (pg_name (i:=4) tT.nd rfl (.inl rfl)) pgs_nil))))
  (Qe (Qj (bc MS (Hm hr) rfl (Qa (bc iL (Hm hr) rfl (Qa (pv 0) (Qa (pv 1) (Qa (pv 3) Qb)))) (Qa (bc iL (Hm hr) rfl (Qa (pv 0) (Qa (pv 1) (Qa (pv 4) Qb)))) Qb))))),?_⟩
 cases hu with
 | @tup ad tD _ qO hda =>
 cases hda with
 | cons g1 hda =>
 cases hda with
 | cons g2 hda =>
 cases hda;obtain ⟨h1,h2,h3,h4,h5,h6⟩:=fC;refine ⟨_,Ja,ad,_,Ja,qO,Ja,_,_,Ja,_,_,Ja,Ja,?_⟩;refine ⟨_,Ja,_,Ja,_,Ja,v,_,d,b,ρ,ns,r.1,Ja,hv,hl,hw,g1,d1,h1.w,p1,fun x1 H1 s1 yB=>?_⟩;refine ⟨_,Ja,_,Ja,_,Ja,v,_,d,b,ρ,ns,r.2,Ja,hv.dI s1,hl,hw.dI s1,GA.sb g2 s1,d2,h2.w,p2,fun x2 H2 s2 oy=>?_⟩;exact ⟨x1,x2,_,_,Ja,yB.sb s2,oy,Yb h3 (by decide),Yb h4 (by decide),Yb h5 (by decide),Yb h6 (by decide),fun x H' s hx=>q x H' ((s1.trans s2).trans s) hx⟩
abbrev Vk:List Str:=[af,bj,aa,aZ,aX]
theorem pK:FnScope Vk [af,bj,aa] (defScope Fi):=fS
theorem zhg {ae:Addr} (B:BI mg) (zM:Got P w K mg base bU [OU] (2) (Nv K)) (zF:Got P w K mg base ij [aO,aX] (1) (Ir K)) (zD:Got P w K mg base bJ [af,bj,aZ] (2*n+6) (FH K ae n)) (F:Fun K cg cg Fi f fd):FnOk P w K mg base CX0 (2*n+7) f fd [af,bj,aa] (Ak K ae (n+1)):=by
 refine F.ok pK (fun vs H Q E h=>?_) (fun _ A _ s H vs Q E hr h=>?_)
 ·obtain ⟨v,u,d,b,ρ,ns,g,rfl,_⟩:=h
  rfl
 obtain ⟨v,u,d,b,ρ,ns,g,rfl,hv,hl,hw,hg,Be,fC,hp,q⟩:=h;have bq:=bh hr;refine ⟨_,Qe (Qj (bc zM (Hm hr) rfl (Qa (pe_lc (own:=[(aZ,3),(aX,4)]) (g:=(gTup K 2 (gCons (gName 3) (gCons (gName 4) gNil)))) (tt:=tYes) (te:=(tCall (Ir K) [] E0 (tCons (tCall (FH K ae n) [] E0 (tCons (tVar 0) (tCons (tVar 1) (tCons (tVar 3) tNil)))) (tCons (tVar 4) tNil)))) rfl pK.nd (pi_tup (pv 2)) (blkOk_by (N:=Vk) (sc:=defScope Fi) (by decide +kernel)) (fun _ _ _ _ _=>(pg_tup rfl (Qi (pg_name (i:=3) pK.nd rfl (.inl rfl)) (Qi (pg_name (i:=4) pK.nd rfl (.inl rfl)) pgs_nil)))) (fun _ _ _ _ _=>pts_nil) (fun _ _ _ _ _=>(bc zF (Hm hr) rfl (Qa (bc zD (Hm hr) rfl (Qa (pv 0) (Qa (pv 1) (Qa (pv 3) Qb)))) (Qa (pv 4) Qb))))) Qb))),?_⟩;obtain ⟨a,xs,rfl,hs,hb⟩:=pz hg;have xl:=hb.length;have lp:=g.aN;have iV:=sizeLine_eq;refine ⟨_,Ja,a,Ja,⟨xs,hs⟩,fun D hD=>?_⟩;refine tu (walk_tup (xs:=xs)) hD (by omega) (fun i us H2=>Bears K H2 Lad.enc us ((g.ps.take i).map fun p:Tr × Int=>Lad.bH (Gr.eA b ρ p.1) p.2)) .nil (fun H2 s2=>s2.aP hs) (fun i us H2 H3 s3 h=>h.sb s3 Lad.ag) (fun Pv i x Hq H2 us hi s2 y hR hu fin skip=>?_) (fun us H2 s2 aW hR hu=>?_)
 ·obtain ⟨rfl,ey⟩:=y;obtain ⟨p,ep,eJ⟩:=hb.get ey;have pm:=Qu ep;obtain ⟨ad,td,ux,rfl,fA,lC,hV,A7⟩:=nj eJ;obtain ⟨⟨f1,f2,f3,f4,f5,f6,f7,f8⟩,f9⟩:=fC.at p pm;have pd:=g.aA p pm;have pp:=g.bA p pm;refine ⟨ad,_,Ja,s2.aP fA,Ja,_,_,Ja,_,_,Ja,Ja,Ja,?_⟩;refine ⟨_,Ja,_,Ja,_,Ja,v,.ref td,d,b,ρ,ns,p.1.1,p.1.2,Ja,hv.dI s2,hl,hw.dI s2,fK s2 _ _ (Gr.ay _) A7,by omega,⟨f1,f2,f3,f4,f5⟩,f9,by omega,fun x H3 s3 hx=>?_⟩;refine ⟨_,Ja,x,_,p.2,Ja,hx,Yb f6.parts (by decide),f6.num,f7,f8,fun y H4 s4 hy=>fin y H4 (s3.trans s4) ?_⟩;rw [Yg,ep,Yj];exact (hR.sb (s3.trans s4) Lad.ag).append (.cons hy .nil)
 ·rw [xl,Yh,<- Gr.kG] at hR;refine ⟨D,us,Gr.rkT b ρ g,Ja,SqL.of aW,hR,fun l hm=>?_,Yb fC.len (by decide),fun x H' s hx=>q x H' (s2.trans s) hx⟩;rw [Gr.kG] at hm;obtain ⟨p,pm,rfl⟩:=Qx hm;exact Yb (Lad.gq _ (fC.at p pm).1.2.2.2.2.2.1.deep) (by decide)
abbrev zjx:List Str:=[af,bj,aZ,"kind","held"]
theorem tM:FnScope zjx [af,bj,aZ] (defScope HA):=fS
theorem Vn {ae:Addr} (B:BI mg) (My:Got P w K mg base uY [af,"kind","own",Nk] (5) (Wi K ae)) (iL:Got P w K mg base cg [af,bj,aa] (2*n+5) (Ak K ae n)) (F:Fun K bJ bJ HA f fd):FnOk P w K mg base CX0 (2*n+6) f fd [af,bj,aZ] (FH K ae n):=by
 refine F.ok tM (fun vs H Q E h=>?_) (fun _ A _ _ H vs Q E hr h=>?_)
 ·obtain ⟨v,t,d,b,ρ,ns,k,g,rfl,_⟩:=h
  rfl
 obtain ⟨v,t,d,b,ρ,ns,k,g,rfl,hv,hl,hw,ht,Be,⟨kn,kb,DO,fk,fg⟩,fC,hp,q⟩:=h;refine ⟨_,Qc (ps_asg (pv 2) (pg_tup rfl (Qi (pg_name (i:=3) tM.nd rfl (.inl rfl)) (Qi (pg_name (i:=4) tM.nd rfl (.inl rfl)) pgs_nil))))
  (Qe (Qj (bc My (Hm hr) rfl (Qa (pv 0) (Qa (pv 3) (Qa (pe_dget (u1 hr) (pv 1) (pv 3) (fun _ _=>rfl)) (Qa (bc iL (Hm hr) rfl (Qa (pv 0) (Qa (pv 1) (Qa (pv 4) Qb)))) Qb))))))),?_⟩
 obtain ⟨a,u,rfl,hs,hV⟩:=PR ht;obtain ⟨ux,Jj,A3⟩:=hw.val kn;refine ⟨_,Ja,a,_,Ja,hs,Ja,_,_,Ja,_,_,Ja,Ja,?_⟩;refine ⟨_,Ja,_,Ja,_,Ja,_,Ja,d,ux,Ja,Jj,?_⟩;refine ⟨_,Ja,_,Ja,_,Ja,v,u,d,b,ρ,ns,g,Ja,hv,hl,hw,hV,Be,fC,hp,fun x H1 s1 hx=>?_⟩;exact ⟨v,ux,x,b,k,ρ k,Gr.rk b ρ g,Ja,hv.dI s1,hl,kb,⟨A3.sb s1,DO,fk⟩,⟨hx,fg⟩,fun y H2 s2 hy=>q y H2 (s1.trans s2) hy⟩
abbrev zkz:List Str:=[af,"kind","own",Nk]
theorem zhq:FnScope zkz [af,"kind","own",Nk] (defScope GZ):=fS
theorem zg6 {ae ai:Addr} (B:BI mg) (zL:z1w P w K mg base ae "spreads" [aw,aI] (4) (IB K ae ai)) (Mn:Got P w K mg base mZ [aY,ao] (3) (WL K)) (zK:Got P w K mg base gM [aY,ao] (2) (Ik K)) (F:Fun K uY uY GZ f fd):FnOk P w K mg base CX0 (5) f fd [af,"kind","own",Nk] (Wi K ae):=by
 refine F.ok zhq (fun vs H Q E h=>?_) (fun _ A _ _ H vs Q E hr h=>?_)
 ·obtain ⟨v,u,t,b,n,o,l,rfl,_⟩:=h
  rfl
 obtain ⟨v,u,t,b,n,o,l,rfl,hv,hl,hn,⟨hu,sh,fo⟩,⟨ht,fl⟩,q⟩:=h;refine ⟨_,Qc (Qr (Qo (Wg zL (Hm hr) (pv 0) (Qa (pv 1) Qb))) (Qe (Qj (bc Mn (Hm hr) rfl (Qa (pv 2) (Qa (pv 3) Qb))))) pss_nil)
  (Qe (Qj (bc zK (Hm hr) rfl (Qa (pv 2) (Qa (pv 3) Qb))))),?_⟩
 obtain ⟨va,wm,FU,FR,rfl,xa⟩:=hv.at;obtain ⟨kd,eg⟩:=Bk.dW hn;refine ⟨_,Ja,va,wm,_,Ja,xa,Ja,_,Ja,?_⟩;refine ⟨_,b,n,Ja,hv,hl,fun k' e' H1 s1=>?_,fun z=>by rw [eg] at z; cases z⟩;rw [eg] at e';cases e';refine ⟨_,Ja,?_⟩;have xF:b.wide n=kd.w:=Bk.lL eg;cases hk:kd.w with
 | true =>
  refine iteT ⟨_,Ja,_,Ja,?_⟩;cases o with
  | nil=>exact absurd rfl sh
  | cons e m r =>
  refine ⟨u,t,e,m,r,l,Ja,hu.sb s1,ht.sb s1,Yb fo.deep (by decide),Yb fl.deep (by decide),Yb fo.parts (by decide),Yb fl.parts (by decide),fun x H' s2 hx=>q x H' (s1.trans s2) ?_⟩;rw [xF,hk];exact hx
 | false =>
  refine iteF ⟨_,Ja,_,Ja,?_⟩;refine ⟨u,t,o,l,Ja,hu.sb s1,ht.sb s1,Yb fo.deep (by decide),Yb fl.deep (by decide),Yb fo.parts (by decide),Yb fl.parts (by decide),fun x H' s2 hx=>q x H' (s1.trans s2) ?_⟩;rw [xF,hk];exact hx
abbrev zlv:List Str:=[af,aa,aO,eB]
theorem x4:FnScope zlv [af,aa,aO] (defScope Hr):=fS
theorem zgz {o8 ae ai bI:Addr} (B:BI mg) (eT:Own K mg "NoReach" o8) (lh:GotX P w K mg base bQ [af,aa] (72) (Iy K ae ai)) (oZ:GotX P w K mg base cX [af,aa] (72) (ND K ae ai bI)) (zE:Got P w K mg base eY [af] (47) (Qk K ae ai)) (sQ:Got P w K mg base cS [aY,ao] (1) (Ah K)) (iL:Got P w K mg base cg [af,bj,aa] (45) (Ak K ae 20)) (v3:GotX P w K mg base bt [af,eB,aa,bK] (91) (FC K ae 20)) (F:Fun K ka ka Hr f fd):FnOk P w K mg base (L2.CX P w) (94) f fd [af,aa,aO] (P6 K ae ai bI o8):=by
 refine F.okX x4 (fun vs H Q E h=>?_) (fun _ A _ s H vs Q E hr h=>?_)
 ·obtain ⟨v,z,y,b,g,ns,rfl,_⟩:=h
  rfl
 obtain ⟨v,z,y,b,g,ns,rfl,hv,ok,hz,gd,gp,gn,nl,qK,q⟩:=h;have bq:=bh hr;refine ⟨_,Qc (Kf (jb lh (Hm hr) rfl (takes_of rfl rfl rfl rfl) (Qa (pv 0) (Qa (pv 1) Qb))))
  (Qc (Kf (jb oZ (Hm hr) rfl (takes_of rfl rfl rfl rfl) (Qa (pv 0) (Qa (pv 1) Qb))))
  (Qc (ps_set (i:=3) x4.nd rfl (.inl rfl) (bc zE (Hm hr) rfl (Qa (pv 0) Qb)))
  (Qc (Qr (Qp (Qo (bc sQ (Hm hr) rfl (Qa (pv 2) (Qa (bc iL (Hm hr) rfl (Qa (pv 0) (Qa (pv 3) (Qa (pv 1) Qb)))) Qb))))) (Qe (ps_raise rfl (takes_of rfl rfl rfl rfl) (pmk_own PySem.F.excBase_ValueError eT.q eT.gC eT.k (raises_own eT.s eT.t) rfl))) pss_nil)
  (Qe (Qj (jb v3 (Hm hr) rfl (takes_of rfl rfl rfl rfl) (Qa (pv 0) (Qa (pv 3) (Qa (pv 1) (Qa (pv 2) Qb)))))))))),?_⟩
 have b8:=ok.len;refine ⟨_,Ja,_,Ja,v,z,b,g,ns,Ja,hv,hz,by omega,gd,gp,gn,nl,fun hn H1 s1=>?_,qK⟩;obtain ⟨qE,q⟩:=q hn;refine ⟨_,Ja,_,Ja,v,z,b,g,Ja,hv.dI s1,ok,hz.sb s1,gd,gp,hn,fun ge H2 s2=>?_,fun n hn d H' s nd hd=>qE n hn d H' (s1.trans s) (s1.kh _ nd) hd⟩;obtain ⟨ρ,t,D,F,B,P0,ow,hR,⟨Be,Gb,go⟩,⟨fC,fg,gb⟩,⟨hy,td,tq⟩,q,qR⟩:=q ge;have iX:=s1.trans s2;refine ⟨_,Ja,v,b,ρ,Ja,hv.dI iX,ok,ow,fun d es H3 s3 nd hw eo=>?_⟩;refine fQ ?_;have g7:=iX.trans s3;have hf:=fC es (fun n hn Sj=>(eo.mem n).mpr ⟨hn,Sj⟩);refine ⟨_,Ja,_,Ja,_,Ja,_,Ja,v,z,d,b,ρ,es,g,Ja,hv.dI g7,by omega,hw,hz.sb g7,by omega,hf,Gb,fun x H4 s4 hx=>?_⟩;have tW:=g7.trans s4;refine ⟨y,x,t,_,Ja,hy.sb tW,hx,by omega,_,Ja,?_⟩;cases hc:t.lt (Gr.rk b ρ g) with
 | false =>
  refine iteT ?_;exact qR hc _ tW
 | true =>
  refine iteF ?_;obtain ⟨to,t1,b1,tp,tx⟩:=tq hc;have G:=zfp ok ow eo hR;refine ⟨_,Ja,_,Ja,_,Ja,_,Ja,v,z,y,d,b,ρ,es,g,t,D,F,B,P0,Ja,hv.dI tW,hw.dI s4,G,hz.sb tW,Be,hf,⟨fg,⟨Gb,Be⟩,go,gb⟩,⟨hy.sb tW,to,t1,b1,td,tp,tx⟩,hc,fun p H5 pl i r n s5 hp hr hn=>?_⟩;exact q hc p H5 pl i r n (tW.trans s5) hp hr hn
abbrev Nq:List Str:=[af,eB,aa,bK,"ladders",Nj,wa,a7,aR,aF,aZ,aX,aO]
theorem dA:FnScope Nq [af,eB,aa,bK] (defScope BJ):=fS
theorem zg0 {ae:Addr} (B:BI mg) (zD:Got P w K mg base bJ [af,bj,aZ] (46) (FH K ae 20)) (zM:Got P w K mg base bU [OU] (2) (Nv K)) (zF:Got P w K mg base ij [aO,aX] (1) (Ir K)) (ML:GotX P w K mg base cH [af,eB,aZ,bK] (2*n+52) (Pu K ae n)) (MF:GotX P w K mg base d6 [Nj,aO,bK] (4) (Vz K)) (F:Fun K bt bt BJ f fd):FnOk P w K mg base (L2.CX P w) (2*n+53) f fd [af,eB,aa,bK] (FC K ae (n+1)):=by
 refine F.okX dA (fun vs H Q E h=>?_) (fun _ A _ _ H vs Q E hr h=>?_)
 ·obtain ⟨v,z,y,d,b,ρ,es,g,t,D,Gv,B0,P0,rfl,_⟩:=h
  rfl
 obtain ⟨v,z,y,d,b,ρ,es,g,t,D,Gv,B0,P0,rfl,hv,hw,G,hz,Be,fC,⟨fg,⟨gp,Tb⟩,go,gb⟩,⟨hy,to,t1,b1,td,tp,tx⟩,d4,q⟩:=h;have bq:=bh hr;refine ⟨_,Qc (ps_setLc (i:=4) (own:=[(aZ,10),(aX,11)]) (g:=(gTup K 2 (gCons (gName 10) (gCons (gName 11) gNil)))) (tt:=tYes) (te:=(tCall (FH K ae 20) [] E0 (tCons (tVar 0) (tCons (tVar 1) (tCons (tVar 10) tNil))))) rfl dA.nd rfl rfl (sw_true rfl rfl rfl (by decide +kernel)) (pi_tup (pv 2)) (blkOk_by (N:=Nq) (sc:=defScope BJ) (by decide +kernel)) (fun _ _ _ _ _=>(pg_tup rfl (Qi (pg_name (i:=10) dA.nd rfl (.inl rfl)) (Qi (pg_name (i:=11) dA.nd rfl (.inl rfl)) pgs_nil)))) (fun _ _ _ _ _=>pts_nil) (fun _ _ _ _ _=>(bc zD (Hm hr) rfl (Qa (pv 0) (Qa (pv 1) (Qa (pv 10) Qb))))))
  (Qc (ps_set (i:=5) dA.nd rfl (.inl rfl) (bc zM (Hm hr) rfl (Qa (pe_lc (own:=[(aO,12),(aZ,10),(aX,11)]) (g:=(gTup K 2 (gCons (gName 12) (gCons (gTup K 2 (gCons (gName 10) (gCons (gName 11) gNil))) gNil)))) (tt:=tYes) (te:=(tCall (Ir K) [] E0 (tCons (tVar 12) (tCons (tVar 11) tNil)))) rfl dA.nd (zfb rfl B.zip (Qa (pv 4) (Qa (pv 2) Qb))) (blkOk_by (N:=Nq) (sc:=defScope BJ) (by decide +kernel)) (fun _ _ _ _ _=>(pg_tup rfl (Qi (pg_name (i:=12) dA.nd rfl (.inl rfl)) (Qi (pg_tup rfl (Qi (pg_name (i:=10) dA.nd rfl (.inl rfl)) (Qi (pg_name (i:=11) dA.nd rfl (.inl rfl)) pgs_nil))) pgs_nil)))) (fun _ _ _ _ _=>pts_nil) (fun _ _ _ _ _=>(bc zF (Hm hr) rfl (Qa (pv 12) (Qa (pv 11) Qb))))) Qb)))
  (Qc (ps_set (i:=6) dA.nd rfl (.inl rfl) (Kn Ki PySem.F.slot_list_index PySem.F.type_list_index (Qh (by show A.units+3+196 < cLine; omega)) (pe_lc (own:=[(aO,12)]) (g:=(gName 12)) (tt:=tYes) (te:=(tOp (rIxT K) (tOp (rIxT K) (tVar 12) (tUn (rU fun i=>.int (-i)) (tC (.int 1)))) (tC (.int 0)))) rfl dA.nd (pi_list (pv 4)) (blkOk_by (N:=Nq) (sc:=defScope BJ) (by decide +kernel)) (fun _ _ _ _ _=>(pg_name (i:=12) dA.nd rfl (.inl rfl))) (fun _ _ _ _ _=>pts_nil) (fun _ _ _ _ _=>(Qm Ql (Qm Ql (pv 12) (pe_un un_neg Qg) (fun _ _=>rfl)) Qg (fun _ _=>rfl)))) (Qa (Qm Ql (Qm Ql (pv 5) (pe_un un_neg Qg) (fun _ _=>rfl)) Qg (fun _ _=>rfl)) Qb)))
  (Qc (ps_asg (jb ML (Hm hr) rfl (takes_of rfl rfl rfl rfl) (Qa (pv 0) (Qa (pv 1) (Qa (Qm Ql (Qm Ql (pv 2) (pv 6) (fun _ _=>rfl)) Qg (fun _ _=>rfl)) (Qa (jb MF (Hm hr) rfl (takes_of rfl rfl rfl rfl) (Qa (pv 5) (Qa (Qm ix_list (pv 4) (pv 6) (fun _ _=>rfl)) (Qa (pv 3) Qb)))) Qb))))) (pg_tup rfl (Qi (pg_name (i:=7) dA.nd rfl (.inl rfl)) (Qi (pg_name (i:=8) dA.nd rfl (.inl rfl)) (Qi (pg_name (i:=9) dA.nd rfl (.inl rfl)) pgs_nil)))))
  (Qe (Qj (Ka (Qa (pe_op Aj (Ka (Qa (pv 6) Qb)) (pv 7)) (Qa (pv 8) (Qa (pv 9) Qb))))))))),?_⟩
 have iV:=sizeLine_eq;have b8:=G.ok.len;have rt:Lad.R t:=⟨D,t1,to⟩;have xP:=fC.named;have mV:=Gr.qS (b:=b) G.toGoods go xP;have Gg:g ≠ .nil:=fun z=>by
  rw [z,Gr.fR,Lad.bR] at d4; cases d4
 have FQ:=Gr.vo (b:=b) G.toGoods go xP Gg;obtain ⟨a,xs,rfl,hs,hb⟩:=pz hz;have xl:=hb.length;have lp:=g.aN;refine ⟨_,Ja,a,Ja,⟨xs,hs⟩,fun D1 nD1=>?_⟩;refine tu (walk_tup (xs:=xs)) nD1 (by omega) (fun i us H2=>Bears K H2 Lad.enc us ((g.ps.take i).map fun p:Tr × Int=>Gr.eA b ρ p.1)) .nil (fun H2 s2=>s2.aP hs) (fun i us H2 H3 s3 h=>h.sb s3 Lad.ag) (fun Pv i x Hq H2 us hi s2 y hR hu fin skip=>?_) (fun us H2 s2 aW hR hu=>?_)
 ·obtain ⟨rfl,ey⟩:=y;obtain ⟨p,ep,eJ⟩:=hb.get ey;have pm:=Qu ep;obtain ⟨ad,N4,ux,rfl,fA,lC,hV,A7⟩:=nj eJ;obtain ⟨⟨f1,f2,f3,f4,f5,f6,f7,f8⟩,f9⟩:=fC.at p pm;have pd:=g.aA p pm;have pp:=g.bA p pm;refine ⟨ad,_,Ja,s2.aP fA,Ja,_,_,Ja,_,_,Ja,Ja,Ja,?_⟩;refine ⟨_,Ja,_,Ja,_,Ja,v,.ref N4,d,b,ρ,es,p.1.1,p.1.2,Ja,hv.dI s2,by omega,hw.dI s2,fK s2 _ _ (Gr.ay _) A7,by omega,⟨f1,f2,f3,f4,f5⟩,f9,by omega,fun x H3 s3 hx=>fin x H3 s3 ?_⟩;rw [Yg,ep,Yj];exact (hR.sb s3 Lad.ag).append (.cons hx .nil)
 rw [xl,Yh] at hR;have ul:=hR.length;rw [Ye] at ul;refine fQ ?_;refine ⟨_,Ja,_,Ja,D1,a,us,xs,Ja,SqL.of aW,s2.aP hs,fun D3 nD3=>?_⟩;refine tu (zbq (xs:=us) (ys:=xs) (n:=g.ps.length) (by omega)) nD3 (by omega) (fun i ws H3=>Bears K H3 Lad.enc ws ((g.ps.take i).map fun p:Tr × Int=>Lad.bH (Gr.eA b ρ p.1) p.2)) .nil (fun H3 s3=>⟨s3.fu aL (SqL.of aW),(s2.trans s3).aP hs⟩) (fun i us H2 H3 s3 h=>h.sb s3 Lad.ag) (fun Pv i x Hq H3 ws hi s3 y OF z6 fin skip=>?_) (fun ws H3 s3 bW OF z6=>?_)
 ·obtain ⟨T,x1,y1,rfl,hT,rfl,ex,ey⟩:=y;obtain ⟨p,ep,eJ⟩:=hb.get ey;obtain ⟨l',el,JE⟩:=hR.get ex;rw [List.getElem?_map,ep] at el;cases el;have pm:=Qu ep;have Ay:=Jb hT (.tup [x1,y1]);obtain ⟨ad,N4,ux,rfl,fA,lC,hV,A7⟩:=nj eJ;obtain ⟨⟨f1,f2,f3,f4,f5,f6,f7,f8⟩,f9⟩:=fC.at p pm;refine ⟨T,_,Ja,SqT.of Qt,Ja,_,_,Ja,_,_,Ja,ad,_,Ja,(s2.trans (s3.trans Ay)).aP fA,Ja,_,_,Ja,_,_,Ja,Ja,Ja,Ja,?_⟩;have s33:=s3.trans Ay;refine ⟨_,Ja,_,Ja,x1,_,p.2,Ja,(show LA K H2 x1 (Gr.eA b ρ p.1) from JE).sb s33,f6.parts,f6.num,f7,f8,fun y4 H4 s4 hy4=>fin y4 H4 (Ay.trans s4) ?_⟩;rw [Yg,ep,Yj];exact (OF.sb (Ay.trans s4) Lad.ag).append (.cons hy4 .nil)
 rw [List.take_of_length_le (Yc _),<- Gr.kG] at OF;have g7:=s2.trans s3;refine fz ?_;refine ⟨D3,ws,Gr.rkT b ρ g,Ja,SqL.of bW,OF,fun l hm=>?_,fC.len,fun wv H4 s4 Yw=>?_⟩
 ·rw [Gr.kG] at hm;obtain ⟨p,pm,rfl⟩:=Qx hm;exact Yb (Lad.gq _ (fC.at p pm).1.2.2.2.2.2.1.deep) (by decide)
 refine fQ ?_;have tW:=g7.trans s4;have jt:H4 D1=some (.lst us):=(s3.trans s4).keep _ _ aW aL;have B6:=hR.sb (s3.trans s4) Lad.ag;refine ⟨_,Ja,D1,Ja,⟨us,SqL.of jt⟩,fun D5 nD5=>?_⟩;refine Nz (walk_list (xs:=us)) [] nD5 (by simp) (by omega) (fun i QF H5=>Bears K H5 Lad.enc QF ((g.ps.take i).map fun p:Tr × Int=>Lad.lst (Gr.eA b ρ p.1))) .nil (fun H5 s5=>s5.fu aL (SqL.of jt)) (fun i us H2 H3 s3 h=>h.sb s3 Lad.ag) (fun Pv i x Hq H5 QF hi s5 y vP Jl _ fin skip=>?_) (fun QF H5 s5 eW vP Jl=>?_)
 ·obtain ⟨rfl,ey⟩:=y;obtain ⟨l',el,JE⟩:=B6.get ey;rw [List.getElem?_map] at el;obtain ⟨p,ep,rfl⟩:=Kr el;have pm:=Qu ep;obtain ⟨n1,n2⟩:=Gr.aE.mp xP p pm;have o2:=(Gr.bE go pm).2.1;obtain ⟨qs,pq,eq⟩:=Lad.snoc_of (Gr.l5 (b:=b) G.toGoods n1 o2 n2);obtain ⟨al,xl5,rfl,RG,kg⟩:=n4 (show LA K H4 x (Gr.eA b ρ p.1) from JE);rw [eq] at kg;obtain ⟨us7,u7,rfl,Ek,DV⟩:=kg.snoc;obtain ⟨c7,N3,rfl,DW,D7⟩:=sU DV;refine ⟨rfl,_,Ja,_,Ja,al,_,_,_,Ja,Ja,s5.aP RG,BN,c7,_,_,_,Ja,Ja,s5.aP DW,atI_nat (j:=0) rfl,fin _ _ SB.refl ?_⟩;rw [Yg,ep,Yj];refine vP.append (.cons ?_ .nil);show Dp K H5 N3 (Lad.lst (Gr.eA b ρ p.1)).enc;rw [show Lad.lst (Gr.eA b ρ p.1)=pq.1 from Lad.jo eq];exact D7.sb s5
 have XA:us.length=g.ps.length:=ul;rw [XA,Yh] at vP;have uG:Lad.lst (Gr.rk b ρ g) ∈ g.ps.map fun p:Tr × Int=>Lad.lst (Gr.eA b ρ p.1):=by
  obtain ⟨p,hp,e⟩:=Gr.ym (b:=b) G.toGoods go xP Gg;exact Ku ⟨p,hp,e⟩
 obtain ⟨j,hj,Ej⟩:=PZ uG;have JI:=hj;rw [List.getElem?_map] at JI;obtain ⟨p,ep,ED⟩:=Kr JI;have pm:=Qu ep;have TM:=NM vP;have KI:∀ i:Nat,((g.ps.map fun p:Tr × Int=>Lad.lst (Gr.eA b ρ p.1)).map Lad.enc)[i]?=((g.ps.map fun p:Tr × Int=>Lad.lst (Gr.eA b ρ p.1))[i]?).map Lad.enc:=fun i=>List.getElem?_map ..;obtain ⟨qs,pq,eq⟩:=Lad.snoc_of FQ;obtain ⟨al,xl5,rfl,RG,kg⟩:=n4 (show LA K H4 wv (Gr.rk b ρ g) from Yw);rw [eq] at kg;obtain ⟨us7,u7,rfl,Ek,DV⟩:=kg.snoc;obtain ⟨c7,N3,rfl,DW,D7⟩:=sU DV;have R8:LA K H5 N3 (Lad.lst (Gr.rk b ρ g)):=by
  rw [Lad.jo eq]; exact LA.sb D7 s5
 have wd:=fg.deep;have ld:=Lad.rP (Gr.rk b ρ g);refine ⟨.inl ⟨rfl,_,SqL.of eW⟩,_,Ja,_,Ja,al,_,_,_,Ja,Ja,s5.aP RG,BN,c7,_,_,_,Ja,Ja,s5.aP DW,atI_nat (j:=0) rfl,D5,N3,(Lad.lst (Gr.rk b ρ g)).enc,_,j,(Lad.lst (Gr.rk b ρ g)).enc,Ja,Ja,.lst (SqL.of eW) TM,R8,?_,Wd.of (Lad.bL (by omega)),by rw [KI,hj]; rfl,by rw [Lad.bw]; exact Ya rfl,fun m z' hm hz=>?_,?_⟩
 ·refine Lad.my _ fun l hl=>?_;obtain ⟨q',qm,rfl⟩:=Qx hl;have h1:=(fC.at q' qm).1.2.2.2.2.2.1.deep;have h2:=Lad.rP (Gr.eA b ρ q'.1);omega
 ·rw [KI] at hz;obtain ⟨l',Tz,rfl⟩:=Kr hz;rw [Lad.bw];exact Qz fun z=>Ej m hm (by rw [Tz,z])
 refine fQ ?_;have qN:=tW.trans s5;have jl:j < us.length:=by
  rw [XA];exact (Kq ep).1
 obtain ⟨uj,Zo⟩:∃ uj,us[j]?=some uj:=⟨_,Kp jl⟩;obtain ⟨l',el,JE⟩:=(B6.sb s5 Lad.ag).get Zo;rw [List.getElem?_map,ep] at el;cases el;obtain ⟨xj,LV⟩:∃ xj,xs[j]?=some xj:=⟨_,Kp (by omega)⟩;obtain ⟨p',OQ,eJ⟩:=hb.get LV;rw [ep] at OQ;cases OQ;obtain ⟨ad,N4,ux,rfl,fA,lC,hV,A7⟩:=nj eJ;obtain ⟨⟨f1,f2,f3,f4,f5,f6,f7,f8⟩,f9⟩:=fC.at p pm;obtain ⟨n1,n2⟩:=Gr.aE.mp xP p pm;obtain ⟨nk,o2,_⟩:=Gr.bE go pm;have pd:=g.aA p pm;have pp:=g.bA p pm;obtain ⟨⟨bp,bo⟩,bd⟩:=gb.at pm;have Og:=Gr.l5 (b:=b) G.toGoods n1 o2 n2;have rl:=Gr.l7 (b:=b) G.toGoods n1 o2 n2;have Rx:LA K H5 (.ref al) (Gr.rk b ρ g):=LA.sb Yw s5;refine ⟨_,Ja,_,Ja,_,Ja,_,Ja,a,xs,(j:Int),_,Ja,Ja,qN.aP hs,atI_nat LV,ad,_,_,_,Ja,Ja,qN.aP fA,atI_nat (j:=0) rfl,?_⟩;refine ⟨_,Ja,_,Ja,_,Ja,D1,us,(j:Int),uj,Ja,Ja,SqL.of (s5.keep _ _ jt aL),atI_nat Zo,?_⟩;refine ⟨_,Ja,.ref al,uj,y,Gr.rk b ρ g,Gr.eA b ρ p.1,t,Ja,⟨Rx,JE,hy.sb qN⟩,⟨FQ,Og⟩,⟨fg.deep,f6.deep,td⟩,⟨fg.parts,f6.parts,by omega⟩,fun gx H6 s6 OB=>?_⟩;refine fz ?_;have zY:=qN.trans s6;obtain ⟨A0,hA0,hA1⟩:=mV;have mV:=Gr.qS (b:=b) G.toGoods go xP;have m1:=Nat.mul_le_mul_left P0 (show p.1.2.deep+1<=g.deep by omega);rw [Nat.mul_add] at m1;have m2:B0*((p.1.2.deep:Nat):Int)+B0<=B0*((g.deep:Nat):Int):=by
  have:=Int.mul_le_mul_of_nonneg_left (show ((p.1.2.deep:Nat):Int)+1<=((g.deep:Nat):Int) by omega) (show 0<=B0 by omega);rw [Int.mul_add] at this;omega
 have m3:=Lad.uK (Gr.rk b ρ g) (Gr.eA b ρ p.1) t;refine ⟨v,.ref N4,gx,d,b,ρ,es,p.1.1,p.1.2,Lad.gone (Gr.rk b ρ g) (Gr.eA b ρ p.1) t,B0+D,Gv,B0,P0,Ja,hv.dI zY,hw.dI zY,G,fK zY _ _ (Gr.ay _) A7,by omega,⟨f1,f4,f5,nk⟩,f9,⟨⟨by omega,by omega⟩,o2,bd⟩,⟨OB,Lad.gone_ok hA1 hA0 bo b1 to t1,by omega,b1,Lad.xq f6.deep td,by omega,by omega⟩,Lad.Br mV FQ rl Og rt ED.symm d4,fun p7 H7 pl i7 r7 n7 s7 z8 YF hn7=>?_⟩;obtain ⟨ap,hq1,sW⟩:=z8;refine ⟨p7,_,Ja,hq1,Ja,_,_,Ja,_,_,Ja,_,_,Ja,Ja,?_⟩;refine ⟨_,Ja,Z1,fun c1 yJ=>?_⟩;have s8:=Jb yJ (.tup [.int (j:Nat)]);have pdl:pl.length<=100:=by
  obtain ⟨_,k0,kd0,hk0,_⟩:=YF;rcases hk0 with ⟨h1,_⟩ | ⟨_,h1⟩
  ·rw [h1]; exact Nat.zero_le _
  ·have:pl.length<=p.1.2.deep:=Gr.gG h1;omega
 refine ⟨_,Ja,c1,ap,_,_,Ja,Ja,SqT.of Qt,s8.aP sW,by rw [Yi,Ye]; omega,fun c2 H8 s9 mL=>?_⟩;refine ⟨_,Ja,_,Ja,Z3,fun c3 xK=>?_⟩;have BW:=Jb xK (.tup [.ref c2,.int (i7:Nat),.int n7]);refine q c3 _ (j::pl) i7 r7 n7 ((zY.trans s7).trans ((s8.trans s9).trans BW)) ⟨c2,SqT.of Qt,BW.aP mL⟩ (Gr.rN G.toGoods go xP ep ED rt d4 YF) (by omega)
abbrev ZM:List Str:=[Nj,aO,bK]
theorem zib:FnScope ZM [Nj,aO,bK] (defScope GV):=fS
theorem zg4 (B:BI mg) (zK:Got P w K mg base gM [aY,ao] (2) (Ik K)) (vZ:GotX P w K mg base bO [aY,ao] (3) (O3 K)) (CO:Got P w K mg base j7 [aO] (1) (Xd K)) (F:Fun K d6 d6 GV f fd):FnOk P w K mg base (L2.CX P w) (4) f fd [Nj,aO,bK] (Vz K):=by
 refine F.okX zib (fun vs H Q E h=>?_) (fun _ A _ s H vs Q E hr h=>?_)
 ·obtain ⟨v,u,y,w,l,g,rfl,_⟩:=h
  rfl
 obtain ⟨v,u,y,w,l,g,rfl,⟨hv,hu,hy⟩,⟨hw,hl⟩,⟨d1,d2,d3⟩,⟨p1,p2,p3⟩,q⟩:=h;have bq:=bh hr;refine ⟨_,Qe (Qj (bc zK (Hm hr) rfl (Qa (bc CO (Hm hr) rfl (Qa (pv 1) Qb)) (Qa (jb vZ (Hm hr) rfl (takes_of rfl rfl rfl rfl) (Qa (bc CO (Hm hr) rfl (Qa (pv 0) Qb)) (Qa (pv 2) Qb))) Qb)))),?_⟩;refine ⟨_,Ja,u,l,Ja,hu,hl,p2,fun x1 H1 s1 h1=>?_⟩;refine ⟨_,Ja,v,w,Ja,hv.sb s1,hw,p1,fun x2 H2 s2 h2=>?_⟩;have q1:=Lad.kI w;have q2:=Lad.kI l;have q3:=Lad.iP (Lad.low w) g;have e1:=Lad.mv d1;have e2:=Lad.mv d2;have e3:=Lad.jK (Lad.low w) g;refine ⟨_,Ja,x2,y,Lad.low w,g,Ja,h2,hy.sb (s1.trans s2),e1,d3,by omega,p3,fun x3 H3 s3 h3=>?_⟩;exact ⟨x1,x3,Lad.low l,Lad.iY (Lad.low w) g,Ja,h1.sb (s2.trans s3),h3,by omega,by omega,by omega,by omega,fun x H' s hx=>q x H' ((s1.trans s2).trans (s3.trans s)) hx⟩
abbrev zkc:List Str:=[aO,"exponent",aX]
theorem tQ:FnScope zkc [aO] (defScope GK):=fS
theorem zhm (B:BI mg) (F:Fun K j7 j7 GK f fd):FnOk P w K mg base CX0 (1) f fd [aO] (Xd K):=by
 refine F.ok tQ (fun vs H Q E h=>?_) (fun _ A _ _ H vs Q E hr h=>?_)
 ·obtain ⟨v,l,rfl,_⟩:=h
  rfl
 obtain ⟨v,l,rfl,hv,sh,hp,q⟩:=h;have bq:=bh hr;refine ⟨_,Qc (ps_asg (Qm Ql (pv 0) (pe_un un_neg Qg) (fun _ _=>rfl)) (pg_tup rfl (Qi (pg_name (i:=1) tQ.nd rfl (.inl rfl)) (Qi (pg_name (i:=2) tQ.nd rfl (.inl rfl)) pgs_nil))))
  (Qc (Qr (pt_cmpR op_eq (pv 2) Qg (nomark _)) (Qe (Qj (pe_slice FF (pv 0) po_none (po_some (pe_un un_neg Qg))))) pss_nil)
  (Qe (Qj (pe_op Aj (pe_slice FF (pv 0) po_none (po_some (pe_un un_neg Qg))) (Ka (Qa (Ka (Qa (pv 1) (Qa (pe_op op_sub (pv 2) Qg) Qb))) Qb)))))),?_⟩
 obtain ⟨qs,p,e⟩:=Lad.snoc_of sh;obtain ⟨a,xs,rfl,hs,hb⟩:=n4 hv;rw [e] at hb;obtain ⟨us,u,rfl,yM,hu⟩:=hb.snoc;obtain ⟨c,ue,rfl,mK,hle⟩:=sU hu;refine ⟨_,Ja,_,Ja,a,_,_,_,Ja,Ja,hs,BN,c,_,Ja,mK,Ja,_,_,Ja,_,_,Ja,Ja,?_⟩;have ed:decide (V.int p.2=V.int 1)=decide (p.2=1):=by simp
 have ql:=Lad.mu e;have ul:=yM.length;have lp:=l.aN;rw [<- Lad.cE,e,Yf] at lp;have ci:cutV (us++[V.ref c]) none (some (-1))=us:=by rw [zay _ (by simp)]; simp
 refine ⟨_,Ja,Ja,_,Ja,?_⟩;rw [ed];by_cases hm:p.2=1
 ·rw [Ya hm];rw [if_pos hm] at ql;refine iteT ⟨_,Ja,_,Ja,-1,Ja,a,_,Ja,hs,fun c1 H1 s1 hc=>?_⟩;rw [ci] at hc;refine q _ _ s1 ?_;rw [ql];exact BP hc (yM.sb s1 Lad.aM)
 ·rw [Qz hm];rw [if_neg hm] at ql;refine iteF ⟨_,Ja,_,Ja,-1,Ja,a,_,Ja,hs,fun c1 H1 s1 hc=>?_⟩;rw [ci] at hc;refine ⟨_,Ja,_,Ja,_,_,Ja,Ja,Z2,fun t1 Jn=>?_⟩;have s2:=Jb Jn (.tup [ue,.int (p.2-1)]);refine ⟨Z1,fun t2 Jm=>?_⟩;have s3:=Jb Jm (.tup [.ref t1]);refine ⟨c1,t2,_,_,Ja,Ja,(s2.trans s3).aP hc,SqT.of Qt,by rw [Yi,ul]; simp only [Yi] at lp; omega,fun c3 H9 s9 xK=>?_⟩;have QR:=s1.trans ((s2.trans s3).trans s9);refine q _ _ QR ?_;rw [ql];refine BP xK ?_;refine Bears.append (yM.sb QR Lad.aM) (.cons ?_ .nil);exact Dp.tup ((s3.trans s9).aP (SqT.of Qt)) (.cons (hle.sb QR) (.cons (.int _) .nil))
abbrev zjp:List Str:=[aY,ao]
theorem zh5:FnScope zjp [aY,ao] (defScope GU):=fS
theorem zfk {zP:Addr} (B:BI mg) (sQ:Got P w K mg base cS [aY,ao] (1) (Ah K)) (Mq:GotX P w K mg base CW [aY,ao] (2) (Vt K zP)) (F:Fun K bO bO GU f fd):FnOk P w K mg base (L2.CX P w) (3) f fd [aY,ao] (O3 K):=by
 refine F.okX zh5 (fun vs H Q E h=>?_) (fun _ A _ s H vs Q E hr h=>?_)
 ·obtain ⟨v,u,l,k,rfl,_⟩:=h
  rfl
 obtain ⟨v,u,l,k,rfl,hv,hu,hd,hd2,hp,fB,q⟩:=h;have bq:=bh hr;refine ⟨_,Qc (Qr (Qo (bc sQ (Hm hr) rfl (Qa (pv 1) (Qa (pv 0) Qb)))) (Qe (Qj (Ka Qb))) pss_nil)
  (Qe (Qj (jb Mq (Hm hr) rfl (takes_of rfl rfl rfl rfl) (Qa (pv 0) (Qa (pv 1) Qb))))),?_⟩
 refine ⟨_,Ja,_,Ja,u,v,k,l,Ja,hu,hv,by omega,_,Ja,?_⟩;unfold Lad.iY at q;cases hc:k.lt l with
 | true =>
  refine iteT ?_;rw [if_pos hc] at q;exact ⟨Z0,fun c hc=>q _ _ (SB.new hc _) (HV (SqT.of Qt))⟩
 | false =>
  refine iteF ?_;rw [if_neg (by rw [hc]; decide)] at q;exact ⟨_,Ja,_,Ja,v,u,l,k,Ja,hv,hu,hd,hd2,hp,fB,fun _ x H' s hx=>q x H' s hx,fun z=>by rw [hc] at z; cases z⟩
abbrev zjv:List Str:=[af,eB,aZ,bK,"kind","held",aR,aF,"exponent",a7]
theorem gV:FnScope zjv [af,eB,aZ,bK] (defScope HB):=fS
theorem zg2 {ae ai:Addr} (B:BI mg) (MK:GotX P w K mg base dt [af,eB,"kind",bK] (50) (VL K ae)) (zL:z1w P w K mg base ae "spreads" [aw,aI] (4) (IB K ae ai)) (v3:GotX P w K mg base bt [af,eB,aa,bK] (2*n+51) (FC K ae n)) (vZ:GotX P w K mg base bO [aY,ao] (3) (O3 K)) (MH:Got P w K mg base cz [bK] (1) (WQ K)) (F:Fun K cH cH HB f fd):FnOk P w K mg base (L2.CX P w) (2*n+52) f fd [af,eB,aZ,bK] (Pu K ae n):=by
 refine F.okX gV (fun vs H Q E h=>?_) (fun _ A _ _ H vs Q E hr h=>?_)
 ·obtain ⟨v,z,y,d,b,ρ,es,k,g,t,D,Gv,B0,P0,rfl,_⟩:=h
  rfl
 obtain ⟨v,z,y,d,b,ρ,es,k,g,t,D,Gv,B0,P0,rfl,hv,hw,G,hz,Be,⟨kn,fk,fg,nk⟩,fC,⟨⟨gp,Tb⟩,go,gb⟩,⟨hy,to,t1,b1,td,tp,tx⟩,d4,q⟩:=h;have bq:=bh hr;refine ⟨_,Qc (ps_asg (pv 2) (pg_tup rfl (Qi (pg_name (i:=4) gV.nd rfl (.inl rfl)) (Qi (pg_name (i:=5) gV.nd rfl (.inl rfl)) pgs_nil))))
  (Qc (Qr (Qp (pt_truth (pv 5) (by intro _; rfl))) (Qc (ps_asg (jb MK (Hm hr) rfl (takes_of rfl rfl rfl rfl) (Qa (pv 0) (Qa (pv 1) (Qa (pv 4) (Qa (pv 3) Qb))))) (pg_tup rfl (Qi (pg_name (i:=6) gV.nd rfl (.inl rfl)) (Qi (pg_name (i:=7) gV.nd rfl (.inl rfl)) pgs_nil))))
  (Qe (Qj (Ka (Qa (Ka Qb) (Qa (pv 6) (Qa (pv 7) Qb))))))) pss_nil)
  (Qc (Qr (Qp (Qo (Pz zL (Hm hr) (takes_of rfl rfl rfl rfl) (pv 0) (Qa (pv 4) Qb)))) (Qe (Qj (jb v3 (Hm hr) rfl (takes_of rfl rfl rfl rfl) (Qa (pv 0) (Qa (pv 1) (Qa (pv 5) (Qa (jb vZ (Hm hr) rfl (takes_of rfl rfl rfl rfl) (Qa (pe_dget (u1 hr) (pv 1) (pv 4) (fun _ _=>rfl)) (Qa (pv 3) Qb))) Qb))))))) pss_nil)
  (Qc (ps_set (i:=8) gV.nd rfl (.inl rfl) (pe_ifExp (pt_truth (pv 3) (by intro _; rfl)) (Qm Ql (Qm Ql (pv 3) Qg (fun _ _=>rfl)) Qg (fun _ _=>rfl)) (Ka Qb)))
  (Qc (ps_asg (jb v3 (Hm hr) rfl (takes_of rfl rfl rfl rfl) (Qa (pv 0) (Qa (pv 1) (Qa (pv 5) (Qa (jb vZ (Hm hr) rfl (takes_of rfl rfl rfl rfl) (Qa (Qm Ql (Qm Ql (pe_dget (u1 hr) (pv 1) (pv 4) (fun _ _=>rfl)) Qg (fun _ _=>rfl)) Qg (fun _ _=>rfl)) (Qa (pv 8) Qb))) Qb))))) (pg_tup rfl (Qi (pg_name (i:=9) gV.nd rfl (.inl rfl)) (Qi (pg_name (i:=6) gV.nd rfl (.inl rfl)) (Qi (pg_name (i:=7) gV.nd rfl (.inl rfl)) pgs_nil)))))
  (Qe (Qj (Ka (Qa (pv 9) (Qa (pv 6) (Qa (Qs (call_max2 rfl) rfl B.max boot_max (Qa (pv 7) (Qa (bc MH (Hm hr) rfl (Qa (pv 3) Qb)) Qb))) Qb)))))))))),?_⟩
 have b8:=G.ok.len;have kb:=G.sub k kn;obtain ⟨kd,eg⟩:=Bk.dW kb;obtain ⟨ro,FX⟩:=G.rt k kn;have rt:Lad.R t:=⟨D,t1,to⟩;have xP:=fC.named;have rh:=Gr.qS (b:=b) G.toGoods go xP;have Bg:0<=B0*(g.deep:Int):=Int.mul_nonneg (by omega) (by omega);have Pg:0<=P0*g.deep:=Nat.zero_le _;obtain ⟨a,u,rfl,hs,hV⟩:=PR hz;obtain ⟨a',FP,rfl,qO,Ad⟩:=pz hV;obtain ⟨ux,Jj,A3⟩:=hw.val kn;refine ⟨_,Ja,a,_,Ja,hs,Ja,_,_,Ja,_,_,Ja,Ja,?_⟩;refine ⟨_,Ja,_,.inr (.inl ⟨FP,qO,Ja⟩),?_⟩;cases g with
 | nil =>
  cases Ad;refine iteT ?_;rw [Gr.x9 G.toGoods kn] at d4;refine ⟨_,Ja,_,Ja,_,Ja,_,Ja,v,y,d,k,b,ρ,es,t,D,Ja,hv,hw,G,kn,⟨hy,to,t1,td,by omega⟩,fk.deep,d4,fun p H1 oq i r n s1 gA TC er n0 nD hr=>?_⟩;refine ⟨p,_,Ja,gA,Ja,_,_,Ja,_,_,Ja,Ja,?_⟩;refine ⟨Z0,fun c0 Sv=>?_⟩;have s2:=Jb Sv (.tup []);refine ⟨_,Ja,_,Ja,Z3,fun c3 xK=>?_⟩;have s3:=Jb xK (.tup [.ref c0,.int (i:Nat),.int n]);refine q c3 _ [] i r n (s1.trans (s2.trans s3)) ⟨c0,SqT.of Qt,s3.aP (SqT.of Qt)⟩ (Gr.uc G.toGoods kn TC er n0 hr) (by show n<=D+B0*((0:Nat):Int); simp; omega)
 | cons gk gh gm gr =>
  have Gg:Gr.cons gk gh gm gr ≠ .nil:=by simp
  obtain ⟨y0,yr,rfl⟩:∃ y0 yr,FP=y0::yr:=by
   have:=Ad.length;cases FP with
   | nil=>exact absurd this (by simp [Gr.ps])
   | cons a b=>exact ⟨a,b,Ja⟩
  refine iteF ?_;generalize Gr.cons gk gh gm gr=g at *;have Oh:=Gr.vo (b:=b) G.toGoods go xP Gg;obtain ⟨va,wm,FU,FR,rfl,xa⟩:=hv.at;refine ⟨_,Ja,va,wm,_,Ja,xa,Ja,_,Ja,?_⟩;refine ⟨_,b,k,Ja,hv,by omega,fun k' e' H1 s1=>?_,fun z=>by rw [eg] at z; cases z⟩;rw [eg] at e';cases e';have xF:b.wide k=kd.w:=Bk.lL eg;refine ⟨_,Ja,?_⟩;cases xH:kd.w with
  | false =>
   rw [xH] at xF;have qg:t.lt (Lad.cL (ρ k) (Gr.rk b ρ g))=true:=by
    have e:Gr.eA b ρ (k,g)=di (b.wide k) (ρ k) (Gr.rk b ρ g):=rfl;rw [e,xF] at d4;exact d4
   refine iteT ?_;have rp:=Lad.iP (ρ k) t;have rd:=Lad.jK (ρ k) t;obtain ⟨Xz,RC,RF⟩:=(hw.dI s1).val kn;refine ⟨_,Ja,_,Ja,_,Ja,_,Ja,_,Ja,d,Xz,Ja,RC,?_⟩;refine ⟨_,Ja,Xz,y,ρ k,t,Ja,RF,hy.sb s1,fk.deep,td,fk.parts,by omega,fun x H2 s2 hx=>?_⟩;have iW:=s1.trans s2;refine fz ?_;refine ⟨.ref va,.ref a',x,d,b,ρ,es,g,Lad.iY (ρ k) t,D,Gv,B0,P0,Ja,hv.dI iW,hw.dI iW,G,GA.sb hV iW,Be,fC,⟨fg,⟨gp,Tb⟩,go,gb⟩,⟨hx,Lad.tY ro to t1,t1,b1,by omega,by omega,tx⟩,Lad.tZ ro rt rh Oh qg,fun p H3 pl i r n2 s3 hp hr uF=>?_⟩;exact q p H3 pl i r n2 (iW.trans s3) hp (Gr.l9 G.toGoods kn nk go xP rt hr (Kw _) (fun _=>rfl) (fun z=>by rw [show b.wide (k,g).1=false from xF] at z; cases z)) uF
  | true =>
   rw [xH] at xF;refine iteF ?_;have qg:t.lt (di true (ρ k) (Gr.rk b ρ g))=true:=by
    have e:Gr.eA b ρ (k,g)=di (b.wide k) (ρ k) (Gr.rk b ρ g):=rfl;rw [e,xF] at d4;exact d4
   refine zhe rfl (hy.sb s1) fun ev H2 s2 hev=>?_;refine fQ ?_;have iW:=s1.trans s2;obtain ⟨ux2,RA,RE⟩:=(hw.dI iW).val kn;cases ho:ρ k with
   | nil=>exact absurd ho FX
   | cons e0 m0 r0 =>
   obtain ⟨au,xu,rfl,hsu,YW⟩:=n4 RE;rw [ho,show (Lad.cons e0 m0 r0).ps=(e0,m0)::r0.ps from rfl] at YW;cases YW with
   | @cons z0 zr _ _ i0 hbr =>
   obtain ⟨c,ue,rfl,mK,hle⟩:=sU i0;have XW:=ro;rw [ho] at XW qg;have e1:di true (Lad.cons e0 m0 r0) (Gr.rk b ρ g)=.cons (Lad.cL e0 (Gr.rk b ρ g)) 1 .nil:=Lad.iu Oh;rw [e1] at qg;have re:=XW.exp;have oy:=Lad.Eh rt (re.cL rh) (Lad.EG Oh) qg;have d1:e0.deep < (ρ k).deep:=by rw [ho]; exact Lad.aA (.cons e0 m0 r0) (e0,m0) (bF ..)
   have d2:e0.parts < (ρ k).parts:=by rw [ho]; exact Lad.bA (.cons e0 m0 r0) (e0,m0) (bF ..)
   have fkd:=fk.deep;have fkp:=fk.parts;have hd:=Lad.yG t;have hp:=Lad.xf t;have rp:=Lad.iP e0 (Lad.hde t);have rd:=Lad.jK e0 (Lad.hde t);refine ⟨_,Ja,_,Ja,_,Ja,_,Ja,_,Ja,d,_,Ja,RA,au,_,_,_,Ja,Ja,hsu,atI_nat (j:=0) rfl,c,_,_,_,Ja,Ja,mK,atI_nat (j:=0) rfl,?_⟩;refine ⟨_,Ja,ue,ev,e0,Lad.hde t,Ja,hle,hev,by omega,by omega,by omega,by omega,fun x H3 s3 hx=>?_⟩;have sV:=iW.trans s3;refine fz ?_;refine ⟨.ref va,.ref a',x,d,b,ρ,es,g,Lad.iY e0 (Lad.hde t),D,Gv,B0,P0,Ja,hv.dI sV,hw.dI sV,G,GA.sb hV sV,Be,fC,⟨fg,⟨gp,Tb⟩,go,gb⟩,⟨hx,Lad.tY re (Lad.Eg to) t1,t1,b1,by omega,by omega,tx⟩,Lad.tZ re rt.hde rh Oh oy,fun p H4 pl i r n2 s4 nP hr uF=>?_⟩;obtain ⟨ap,sZ,sY⟩:=nP;refine ⟨p,_,Ja,sZ,Ja,_,_,Ja,_,_,Ja,_,_,Ja,Ja,?_⟩;refine ⟨_,Ja,_,Ja,_,Ja,_,Ja,y,t,Ja,hy.sb (sV.trans s4),by omega,_,_,Ja,?_⟩;refine ⟨Z3,fun c3 xK=>?_⟩;have fr:=Lad.Ey to t1;have rn0:0<=n2:=hr.1;refine q c3 _ pl i r (if Lad.Af t > n2 then Lad.Af t else n2) ((sV.trans s4).trans (SB.new xK _)) ⟨ap,SqT.of Qt,(Jb xK _).aP sY⟩ (Gr.l9 G.toGoods kn nk go xP rt hr (by split <;> omega) (fun z=>by rw [show b.wide (k,g).1=true from xF] at z; cases z) fun _=>⟨by rw [show ρ (k,g).1=.cons e0 m0 r0 from ho]; rfl,by split <;> omega⟩) (by split <;> omega)
abbrev ZL:List Str:=[bK,aX]
theorem xZ:FnScope ZL [bK] (defScope GC):=fS
theorem zgk (B:BI mg) (F:Fun K cz cz GC f fd):FnOk P w K mg base CX0 (1) f fd [bK] (WQ K):=by
 refine F.ok xZ (fun vs H Q E h=>?_) (fun _ A _ _ H vs Q E hr h=>?_)
 ·obtain ⟨v,l,rfl,_⟩:=h
  rfl
 obtain ⟨v,l,rfl,hv,hp,q⟩:=h;have bq:=bh hr;refine ⟨_,Qc (Qr (Qp (pt_truth (pv 0) (by intro _; rfl))) (Qe (Qj Qg)) pss_nil)
  (Qc (ps_set (i:=1) xZ.nd rfl (.inl rfl) (Qm Ql (Qm Ql (pv 0) Qg (fun _ _=>rfl)) Qg (fun _ _=>rfl)))
  (Qe (Qj (pe_ifExp (pt_cmpR op_gt (Qs call_len_seq rfl B.len PySem.boot_len (Qa (pv 0) Qb)) Qg (nomark _)) (pv 1) (pe_op op_sub (pv 1) Qg))))),?_⟩
 obtain ⟨a,xs,rfl,hs,hb⟩:=n4 hv;refine ⟨_,Ja,_,.inr (.inl ⟨xs,hs,Ja⟩),?_⟩;cases l with
 | nil =>
  cases hb;refine iteT ?_;exact q
 | cons e m r =>
  rw [show (Lad.cons e m r).ps=(e,m)::r.ps from rfl] at hb;cases hb with
  | @cons y0 yr _ _ h0 hbr =>
  refine iteF ?_;obtain ⟨c,ue,rfl,mK,hle⟩:=sU h0;have rl:=hbr.length;refine ⟨_,Ja,a,_,_,_,Ja,Ja,hs,atI_nat (j:=0) rfl,c,_,_,_,Ja,Ja,mK,atI_nat (j:=1) rfl,?_⟩;refine fQ ?_;refine ⟨_,Ja,a,_,Ja,.inr hs,_,_,Ja,Ja,_,Ja,?_⟩;unfold Lad.Af at q;cases r with
  | nil =>
   cases hbr;rw [show decide ((1:Int) < (([V.ref c]:List V).length:Nat))=false from rfl];have q':Q (V.int (m-1)) H:=q;exact iteF ⟨_,Ja,_,_,Ja,Ja,q'⟩
  | cons e2 m2 r2 =>
   have Q1:yr.length=r2.ps.length+1:=rl;rw [show decide ((1:Int) < ((V.ref c::yr).length:Nat))=true from Ya (by rw [Yk]; omega)];have q':Q (V.int m) H:=q;exact iteT ⟨_,Ja,q'⟩
abbrev UU:List Str:=[af,eB,"kind",bK,"rows",wa,"once","each",aR]
theorem jh:FnScope UU [af,eB,"kind",bK] (defScope Fj):=fS
theorem zin {ae ai:Addr} (B:BI mg) (sP:GotX P w K mg base a5 [af,aI] (5) (NO K ae ai)) (zJ:Got P w K mg base pj [af,bj,aR] (46) (HX K ae)) (sQ:Got P w K mg base cS [aY,ao] (1) (Ah K)) (iL:Got P w K mg base cg [af,bj,aa] (45) (Ak K ae 20)) (Mw:Got P w K mg base ik [dQ,aq] (1) (Pw K)) (F:Fun K dt dt Fj f fd):FnOk P w K mg base (L2.CX P w) (50) f fd [af,eB,"kind",bK] (VL K ae):=by
 refine F.okX jh (fun vs H Q E h=>?_) (fun _ A _ _ H vs Q E hr h=>?_)
 ·obtain ⟨v,y,d,k,b,ρ,es,t,D,rfl,_⟩:=h
  rfl
 obtain ⟨v,y,d,k,b,ρ,es,t,D,rfl,hv,hw,G,hk,⟨hy,to,t1,td,tp⟩,kd,d4,q⟩:=h;have bq:=bh hr;refine ⟨_,Qc (ps_set (i:=4) jh.nd rfl (.inl rfl) (jb sP (Hm hr) rfl (takes_of rfl rfl rfl rfl) (Qa (pv 0) (Qa (pv 2) Qb))))
  (Qc (ps_set (i:=5) jh.nd rfl (.inl rfl) (Kn Ki PySem.F.slot_list_index PySem.F.type_list_index (Qh (by show A.units+3+196 < cLine; omega)) (pe_lc (own:=[(aR,8)]) (g:=(gName 8)) (tt:=tYes) (te:=(tCall (HX K ae) [] E0 (tCons (tVar 0) (tCons (tVar 1) (tCons (tVar 8) tNil))))) rfl jh.nd (pi_list (pv 4)) (blkOk_by (N:=UU) (sc:=defScope Fj) (by decide +kernel)) (fun _ _ _ _ _=>(pg_name (i:=8) jh.nd rfl (.inl rfl))) (fun _ _ _ _ _=>pts_nil) (fun _ _ _ _ _=>(bc zJ (Hm hr) rfl (Qa (pv 0) (Qa (pv 1) (Qa (pv 8) Qb)))))) (Qa (pe_dget (u1 hr) (pv 1) (pv 2) (fun _ _=>rfl)) Qb)))
  (Qc (ps_asg (Qm ix_list (pv 4) (pv 5) (fun _ _=>rfl)) (pg_tup rfl (Qi (pg_name (i:=6) jh.nd rfl (.inl rfl)) (Qi (pg_name (i:=7) jh.nd rfl (.inl rfl)) pgs_nil))))
  (Qc (Qr (Qp (Qo (bc sQ (Hm hr) rfl (Qa (bc iL (Hm hr) rfl (Qa (pv 0) (Qa (pv 1) (Qa (pv 6) Qb)))) (Qa (pv 3) Qb))))) (Qe (Qj (Ka (Qa (pv 5) (Qa Qg Qb))))) pss_nil)
  (Qe (Qj (Ka (Qa (pv 5) (Qa (pe_op Ko Qg (bc Mw (Hm hr) rfl (Qa (pv 3) (Qa (Qm Ql (Qm Ql (bc iL (Hm hr) rfl (Qa (pv 0) (Qa (pv 1) (Qa (pv 7) Qb)))) Qg (fun _ _=>rfl)) Qg (fun _ _=>rfl)) Qb)))) Qb)))))))),?_⟩
 have iV:=sizeLine_eq;have b8:=G.ok.len;obtain ⟨oq,eg⟩:=Bk.dW (G.sub k hk);obtain ⟨km,rfl⟩:=Bk.get_some eg;obtain ⟨kn,r4,rr⟩:=G.ok.kd oq km;refine ⟨_,Ja,_,Ja,v,b,oq.n,Ja,hv,by omega,fun k hk=>Yb (G.ok.kd k hk).2.1 (by decide),fun k' e' ll us H4 s4 AJ sj kg=>?_,fun z=>by rw [eg] at z; cases z⟩;rw [eg] at e';cases e';have ul:=kg.length;refine fQ ?_;have Bo:=hw.dI s4;refine ⟨_,Ja,ll,Ja,⟨_,SqL.of sj⟩,fun D2 FY=>?_⟩;refine Nz (walk_list (xs:=us)) [] FY (by simp) (by rw [ul,Yk]; omega) (fun j ws H5=>Bears K H5 Lad.enc ws (((iZ::oq.rs).take j).map (gW b ρ))) .nil (fun H5 s5=>s5.fu aL (SqL.of sj)) (fun j ws H5 H6 s6 h=>h.sb s6 Lad.ag) (fun Pv j x Hq H5 ws hj s5 y vP Jl _ fin skip=>?_) (fun ws H5 s5 eW vP Jl=>?_)
 ·obtain ⟨rfl,ey⟩:=y;obtain ⟨r,er,Jr⟩:=kg.get ey;have rm:=Qu er;have rf:uS b ρ es r:=by
   rcases Qv rm with rfl | rm
   ·exact Pk b ρ _
   ·exact (G.ru _ hk oq eg r rm).1
  have rp:r.1.parts+r.2.parts<=4:=by
   rcases Qv rm with rfl | rm
   ·decide
   ·exact (rr r rm).1.2.2
  have XZ:=qL r.1;have XY:=qL r.2;refine ⟨rfl,_,Ja,_,Ja,_,Ja,v,x,d,b,ρ,es,r,Ja,(hv.dI s4).dI s5,by omega,Bo.dI s5,fK s5 _ _ (Ru.ag _) Jr,by omega,by omega,by omega,by omega,rf,fun z H6 s6 hz=>fin z H6 s6 ?_⟩;rw [Yg,er,Yj];exact (vP.sb s6 Lad.ag).append (.cons hz .nil)
 ·rw [ul,Yh] at vP;have uG:ρ oq.n ∈ (iZ::oq.rs).map (gW b ρ):=by
   rw [G.own _ hk oq eg,Ky,show gW b ρ iZ=Lad.cV from HQ b ρ];exact Lad.gy _ _
  obtain ⟨j,hj,Ej⟩:=PZ uG;have JI:=hj;rw [List.getElem?_map] at JI;obtain ⟨r,er,ED⟩:=Kr JI;have rm:=Qu er;obtain ⟨ux,Jj,A3⟩:=hw.val hk;have Kz:=Bo.dI s5;have qN:=s4.trans s5;obtain ⟨ux,Jj,A3⟩:=Kz.val hk;have TM:=NM vP;have KI:∀ i:Nat,(((iZ::oq.rs).map (gW b ρ)).map Lad.enc)[i]?=(((iZ::oq.rs).map (gW b ρ))[i]?).map Lad.enc:=fun i=>List.getElem?_map ..;refine ⟨.inl ⟨rfl,_,SqL.of eW⟩,_,Ja,_,Ja,d,ux,Ja,Jj,D2,ux,(ρ oq.n).enc,_,j,(ρ oq.n).enc,Ja,Ja,.lst (SqL.of eW) TM,A3,?_,Wd.of (Lad.bL (by omega)),by rw [KI,hj]; rfl,by rw [Lad.bw]; exact Ya rfl,fun m z' hm hz=>?_,?_⟩
  ·refine Lad.my _ fun l hl=>?_;obtain ⟨r',rm',rfl⟩:=Qx hl;rcases Qv rm' with z | z
   ·rw [z,show gW b ρ iZ=Lad.cV from HQ b ρ]; decide
   ·exact (G.ru _ hk oq eg r' z).2
  ·rw [KI] at hz;obtain ⟨l',Tz,rfl⟩:=Kr hz;rw [Lad.bw];exact Qz fun z=>Ej m hm (by rw [Tz,z])
  refine fQ ?_;have jl:j < us.length:=by
   rw [ul];exact (Kq er).1
  obtain ⟨xj,LV⟩:∃ xj,us[j]?=some xj:=⟨_,Kp jl⟩;obtain ⟨r',Ag,Jr⟩:=kg.get LV;rw [er] at Ag;cases Ag;cases Jr with
  | @tup ad tD _ qO hda =>
  cases hda with
  | cons g1 hda =>
  cases hda with
  | cons g2 hda =>
  cases hda;refine ⟨_,Ja,_,Ja,ll,us,(j:Int),_,Ja,Ja,s5.fu aL (SqL.of sj),atI_nat LV,ad,_,Ja,s5.aP qO,Ja,_,_,Ja,_,_,Ja,Ja,?_⟩;obtain ⟨k1,k2,k3⟩:=Gr.rF G.toGoods hk eg rm;have rl:=Gr.qS G.toGoods k1.1 k2;have XX:=Gr.qS G.toGoods k1.2.1 k3;have rt:Lad.R t:=⟨D,t1,to⟩;have rf:uS b ρ es r:=by
   rcases Qv rm with z | z
   ·rw [z]; exact Pk b ρ _
   ·exact (G.ru _ hk oq eg r z).1
  have rp:=k1.2.2;have XZ:=qL r.1;have XY:=qL r.2;have qg:t.lt (Lad.oU (Gr.rk b ρ r.1) (Gr.rk b ρ r.2))=true:=by
   show t.lt (gW b ρ r)=true;rw [ED]; exact d4
  refine ⟨_,Ja,_,Ja,_,Ja,v,_,d,b,ρ,es,r.1,Ja,hv.dI qN,by omega,Kz,GA.sb g1 s5,by omega,rf.1.w,by omega,fun x1 H6 s6 yB=>?_⟩;refine ⟨_,Ja,x1,y,_,t,Ja,yB,hy.sb (qN.trans s6),Yb rf.2.2.1 (by decide),_,Ja,?_⟩;cases hc:(Gr.rk b ρ r.1).lt t with
  | false =>
   refine iteT ?_;refine ⟨_,Ja,Z2,fun c mL=>?_⟩;exact q c _ oq j r 0 ((qN.trans s6).trans (SB.new mL _)) (SqT.of Qt) eg er (by decide) (by omega) fun n' A9=>Lad.mO rl XX rt qg (by omega) fun z=>by rw [hc] at z; cases z
  | true =>
   refine iteF ?_;have ene:=Lad.Bx rl rt qg hc;refine ⟨_,Ja,_,Ja,_,Ja,_,Ja,_,Ja,v,_,d,b,ρ,es,r.2,Ja,hv.dI (qN.trans s6),by omega,Kz.dI s6,GA.sb g2 (s5.trans s6),by omega,rf.2.1.w,by omega,fun x2 H7 s7 oy=>?_⟩;obtain ⟨a2,xs2,rfl,mX,jU⟩:=n4 oy;cases vM:Gr.rk b ρ r.2 with
   | nil=>exact absurd vM ene
   | cons e m rr2 =>
   rw [vM,show (Lad.cons e m rr2).ps=(e,m)::rr2.ps from rfl] at jU;cases jU with
   | @cons y0 yr _ _ h0 hbr =>
   obtain ⟨c,ue,rfl,mK,hle⟩:=sU h0;have XT:=(qN.trans s6).trans s7;have ed:e.deep < (Lad.cons e m rr2).deep:=Lad.aA (.cons e m rr2) (e,m) (bF ..);have rfd:=rf.2.2.2.1;rw [vM] at rfd;refine ⟨_,_,_,_,Ja,Ja,mX,atI_nat (j:=0) rfl,c,_,_,_,Ja,Ja,mK,atI_nat (j:=0) rfl,y,ue,t,e,Ja,hy.sb XT,hle,by omega,by omega,by omega,fun H8 s8=>?_⟩;refine ⟨_,_,Ja,Ja,Z2,fun c9 hc9=>?_⟩;have sS:=Lad.BG to t1 e;refine q c9 _ oq j r (1+Lad.S t e) ((XT.trans s8).trans (SB.new hc9 _)) (SqT.of Qt) eg er (by omega) (by omega) fun n' A9=>Lad.mO rl XX rt qg (by omega) fun _=>⟨e,m,rr2,vM,A9⟩
abbrev zjl:List Str:=[af,aa,cq,ao]
theorem zil:FnScope zjl [af,aa,cq,ao] (defScope HM):=fS
theorem zi2 {ae ai bI:Addr} (B:BI mg) (lh:GotX P w K mg base bQ [af,aa] (72) (Iy K ae ai)) (oZ:GotX P w K mg base cX [af,aa] (72) (ND K ae ai bI)) (F:Fun K d7 d7 HM f fd):FnOk P w K mg base (L2.CX P w) (74) f fd [af,aa,cq,ao] (Pp K ae ai bI):=by
 refine F.okX zil (fun vs H Q E h=>?_) (fun _ A _ _ H vs Q E hr h=>?_)
 ·obtain ⟨v1,w1,v2,w2,b1,b2,g1,g2,AI,AH,o,rfl,_⟩:=h
  rfl
 obtain ⟨v1,w1,v2,w2,b1,b2,g1,g2,AI,AH,o,rfl,h1,h2,hd,q⟩:=h;have bq:=bh hr;refine ⟨_,Qc (Kf (jb lh (Hm hr) rfl (takes_of rfl rfl rfl rfl) (Qa (pv 0) (Qa (pv 1) Qb))))
  (Qc (Kf (jb lh (Hm hr) rfl (takes_of rfl rfl rfl rfl) (Qa (pv 2) (Qa (pv 3) Qb))))
  (Qc (Kf (jb oZ (Hm hr) rfl (takes_of rfl rfl rfl rfl) (Qa (pv 0) (Qa (pv 1) Qb))))
  (Qe (Kf (jb oZ (Hm hr) rfl (takes_of rfl rfl rfl rfl) (Qa (pv 2) (Qa (pv 3) Qb))))))),?_⟩
 have l1:=h1.ok.len;have l2:=h2.ok.len;refine ⟨_,Ja,_,Ja,v1,w1,b1,g1,AI,Ja,h1.bk,h1.ga,by omega,h1.deep,h1.parts,h1.nm,h1.nl,fun n1 H1 s1=>?_,fun n lo d H1 s1 nd nQ=>?_⟩
 rotate_left
 ·obtain rfl:=hd.uniq (.k1 lo);exact q d H1 s1 nd nQ
 have Zg:=h2.dI s1;refine ⟨_,Ja,_,Ja,v2,w2,b2,g2,AH,Ja,Zg.bk,Zg.ga,by omega,h2.deep,h2.parts,h2.nm,h2.nl,fun n2 H2 s2=>?_,fun n lo d H2 s2 nd nQ=>?_⟩
 rotate_left
 ·obtain rfl:=hd.uniq (.k2 n1 lo);exact q d H2 (s1.trans s2) (s1.kh _ nd) nQ
 have iX:=s1.trans s2;have Zh:=h1.dI iX;refine ⟨_,Ja,_,Ja,v1,w1,b1,g1,Ja,Zh.bk,h1.ok,Zh.ga,h1.deep,h1.parts,n1,fun e1 H3 s3=>?_,fun n lo d H3 s3 nd nQ=>?_⟩
 rotate_left
 ·obtain rfl:=hd.uniq (.e1 n1 n2 lo);exact q d H3 (iX.trans s3) (iX.kh _ nd) nQ
 have g7:=iX.trans s3;have Zf:=h2.dI g7;refine ⟨_,Ja,_,Ja,v2,w2,b2,g2,Ja,Zf.bk,h2.ok,Zf.ga,h2.deep,h2.parts,n2,fun e2 H4 s4=>?_,fun n lo d H4 s4 nd nQ=>?_⟩
 rotate_left
 ·obtain rfl:=hd.uniq (.e2 n1 n2 e1 lo);exact q d H4 (g7.trans s4) (g7.kh _ nd) nQ
 obtain rfl:=hd.uniq (.fine n1 n2 e1 e2);exact q H4 (g7.trans s4)
abbrev zka:List Str:=[bD]
theorem zhy:FnScope zka [bD] (defScope HK):=fS
theorem zif (B:BI mg) (F:Fun K ir ir HK f fd):FnOk P w K mg base CX0 (1) f fd [bD] (U9 K):=by
 refine F.ok zhy (fun vs H Q E h=>?_) (fun _ A _ _ H vs Q E hr h=>?_)
 ·obtain ⟨a,ns,rfl,_⟩:=h
  rfl
 obtain ⟨a,ns,rfl,hs,nl,q⟩:=h;have bq:=bh hr;refine ⟨_,Qe (Qj (pe_disp (pps_cons pe_str (pe_callTy call_list_of rfl B.list boot_list (Qa (pv 0) Qb)) (pps_cons pe_str Qg (pps_cons pe_str Qg (pps_cons pe_str (pe_op Ko Qg (Qs call_len_seq rfl B.len PySem.boot_len (Qa (pv 0) Qb))) pps_nil)))) (by rfl) (by rfl) (fun z=>by cases z) (by decide))),?_⟩;have iV:=sizeLine_eq;refine fun p np=>?_;have t0:=Jb np (.dK []);have uC:=n6 t0;generalize upd H p _=H0 at t0 uC;refine ⟨_,Ja,a,_,Ja,.inl (t0.fu aL hs),fun c nc=>?_⟩;have t1:=Jb nc (.lst (ns.map V.int));have yJ:=n6 t1;have gA:=t1.keep _ _ uC aL;have cp:c ≠ p:=fun z=>by rw [z,uC] at nc; cases nc
 have QT:=t0.trans t1;generalize upd H0 c _=H1 at t1 yJ gA QT;refine ⟨_,Ja,a,_,Ja,.inl (QT.fu aL hs),_,_,Ja,Ja,?_⟩;rw [Ye];refine ⟨gA,[(Sum.inr "cells",.ref c),(Sum.inr wa,.int 0),(Sum.inr "left",.int 0),(Sum.inr "seed",.int (20011+(ns.length:Nat)))],rfl,by show 4<=15; decide,?_⟩;have t2:=SB.jI (ps:=[p]) gA (by simp) (.dK (gu c 0 0 (20011+(ns.length:Nat))));refine q p _ ((QT.nil.trans t2).drop np) np ⟨c,ns,0,0,20011+(ns.length:Nat),Qt,t2.keep _ _ yJ (by simpa using cp),nl,by omega,by omega,⟨by omega,by decide⟩,by omega,?_⟩;have:(2:Int) ^ 31=2147483648:=by decide
 omega
abbrev ZP:List Str:=[ah,aJ,"_law_cell","_law_digit","_law_seed"]
theorem pV:FnScope ZP [ah,aJ] (defScope GO):=fS
theorem zg5 (B:BI mg) (F:Fun K bV bV GO f fd):FnOk P w K mg base CX0 (1) f fd [ah,aJ] (Ai):=by
 refine F.ok pV (fun vs H Q E h=>?_) (fun _ A _ s H vs Q E hr h=>?_)
 ·obtain ⟨p,c,m,rfl,_⟩:=h
  rfl
 obtain ⟨p,c,m,rfl,hp,m1,m2,q⟩:=h;have bq:=bh hr;refine ⟨_,Qc (Qr (PW.pt (pw_and (pt_cmpR op_eq (pe_dget (u1 hr) (pv 0) pe_str (fun _ _=>rfl)) Qg (nomark _)) (pw_and1 (pt_cmpR op_lt (pe_dget (u1 hr) (pv 0) pe_str (fun _ _=>rfl)) (Qs call_len_seq rfl B.len PySem.boot_len (Qa (pe_dget (u1 hr) (pv 0) pe_str (fun _ _=>rfl)) Qb)) (nomark _))))) (Qc (ps_set (i:=2) pV.nd rfl (.inl rfl) (Qm ix_list (pe_dget (u1 hr) (pv 0) pe_str (fun _ _=>rfl)) (pe_dget (u1 hr) (pv 0) pe_str (fun _ _=>rfl)) (fun _ _=>rfl)))
  (Qc (ps_daug (u1 hr) (pv 0) pe_str Qg in_add (fun _ _ _=>rfl))
  (Qe (Qr (PW.pt (Kk (pt_cmpR op_ge (pv 2) (pe_op op_pow Qg Qg) (nomark _)) (pw_or1 (pt_cmpR op_lt (pv 2) Qg (nomark _))))) (Qe (ps_dput (u1 hr) (pv 0) pe_str (pe_op op_mod (Qs call_abs rfl B.abs boot_abs (Qa (pv 2) Qb)) (pe_op op_mulW (pe_op op_mulW (pe_op op_mulW (pe_op op_mulW (pe_op op_pow Qg Qg) (pe_op op_pow Qg Qg)) (pe_op op_pow Qg Qg)) (pe_op op_pow Qg Qg)) (pe_op op_pow Qg Qg))) rfl)) (Qe (ps_dput (u1 hr) (pv 0) pe_str (pe_op op_mod (pe_op Ko (pe_op op_mul (pe_dget (u1 hr) (pv 0) pe_str (fun _ _=>rfl)) Qg) (pe_op op_mod (pv 2) Qg)) Qg) rfl)))))) pss_nil)
  (Qc (Qr (pt_cmpR op_gt (pe_dget (u1 hr) (pv 0) pe_str (fun _ _=>rfl)) Qg (nomark _)) (Qc (ps_set (i:=3) pV.nd rfl (.inl rfl) (pe_op op_mod (pe_dget (u1 hr) (pv 0) pe_str (fun _ _=>rfl)) (pv 1)))
  (Qc (ps_dput (u1 hr) (pv 0) pe_str (pe_op op_fdivW (pe_dget (u1 hr) (pv 0) pe_str (fun _ _=>rfl)) (pv 1)) rfl)
  (Qe (Qj (pv 3))))) pss_nil)
  (Qc (ps_set (i:=4) pV.nd rfl (.inl rfl) (pe_op op_mod (pe_op Ko (pe_op op_mul (pe_dget (u1 hr) (pv 0) pe_str (fun _ _=>rfl)) Qg) Qg) Qg))
  (Qc (ps_dput (u1 hr) (pv 0) pe_str (pv 4) rfl)
  (Qe (Qj (pe_op op_mod (pe_op Ko (pe_op op_mul (pe_op op_mod (pe_op op_mul (pv 4) (pv 4)) Qg) Qg) (pe_op op_fdivW (pv 4) Qg)) (pv 1))))))),?_⟩
 have iV:=sizeLine_eq;obtain ⟨ns,a,l,s,uC,hc,nl,a0,a1,⟨l0,l1⟩,⟨s0,s1⟩⟩:=hp;refine NF (fun σ' G=>∃ (a l s:Int) (o2:Option V),σ'=[some (.ref p),some (.int m),o2,none,none]/\SB [p] H G/\G p=some (.dK (gu c a l s))/\G c=some (.lst (ns.map V.int))/\0<=a/\a<=ns.length/\(0<=l/\l < 10 ^ 320)/\(0<=s/\s < 2 ^ 31)) (fun nx uE=>?_) (fun σ' G h=>?_)
 ·have cp:c ≠ p:=fun z=>by rw [z,uC] at hc; cases hc
  have stay:SB [p] H H:=SB.refl;have e31:(2:Int) ^ 31=2147483648:=by decide
  refine ⟨_,Ja,p,_,Ja,i5 uC (NL _ _ _ _),Ja,_,Ja,?_⟩;by_cases h0:l=0
  ·rw [show decide (V.int l=V.int 0)=true from Ya (by rw [h0])];refine iteT ?_;refine ⟨_,Ja,p,_,Ja,i5 uC (O6 _ _ _ _),_,Ja,p,_,Ja,i5 uC (W4 _ _ _ _),c,_,Ja,.inl (SqL.of hc),_,_,Ja,Ja,_,Ja,?_⟩;rw [Ye];by_cases h1:a < ns.length
   ·rw [Ya h1];refine iteT ?_;obtain ⟨j,rfl⟩:∃ j:Nat,a=(j:Int):=⟨a.toNat,by omega⟩;have ej:ns[j]?=some ns[j]:=Kp (by omega);generalize ns[j]=x at ej;refine ⟨_,Ja,p,_,Ja,i5 uC (W4 _ _ _ _),_,Ja,p,_,Ja,i5 uC (O6 _ _ _ _),c,_,_,_,Ja,Ja,SqL.of hc,atI_nat (j:=j) (by rw [List.getElem?_map,ej]; rfl),?_⟩;refine fQ ?_;refine ⟨_,rfl,p,_,rfl,i5 uC (O6 _ _ _ _),_,_,rfl,rfl,_,DPut.k (k:=Sum.inr wa) uC (by show 4 < sizeLine; decide),?_⟩;have t1:=SB.jI (ps:=[p]) uC (by simp) (.dK (gu c ((j:Int)+1) l s));have gA:upd H p (.dK (gu c ((j:Int)+1) l s)) p=some (.dK (gu c ((j:Int)+1) l s)):=Qt;have yJ:=t1.keep _ _ hc (by simpa using cp);rw [zg7];generalize upd H p _=H1 at t1 gA yJ;refine ⟨_,Ja,10,18,Ja,Ja,⟨by decide,by decide⟩,_,_,Ja,Ja,_,Ja,?_⟩;by_cases g1:(10:Int) ^ (18:Int).toNat<=x
    ·rw [Ya g1];refine iteT ?_;refine ⟨_,Ja,x,Ja,10,64,Ja,Ja,⟨by decide,by decide⟩,10,64,Ja,Ja,⟨by decide,by decide⟩,_,_,Ja,Ja,by unfold CMulW; decide +kernel,10,64,rfl,rfl,⟨by decide,by decide⟩,_,_,rfl,rfl,by unfold CMulW; decide +kernel,10,64,rfl,rfl,⟨by decide,by decide⟩,_,_,rfl,rfl,by unfold CMulW; decide +kernel,10,64,rfl,rfl,⟨by decide,by decide⟩,_,_,rfl,rfl,by unfold CMulW; decide +kernel,_,_,rfl,rfl,(by show (0:Int) < 10 ^ Int.toNat 64*10 ^ Int.toNat 64*10 ^ Int.toNat 64*10 ^ Int.toNat 64*10 ^ Int.toNat 64; decide +kernel),?_⟩;refine ⟨_,rfl,p,_,rfl,DPut.k (k:=Sum.inr "left") gA (by show 4 < sizeLine; decide),?_⟩;have t2:=SB.jI (ps:=[p]) gA (by simp) (.dK (gu c ((j:Int)+1) ((if x < 0 then -x else x) % (10 ^ 320)) s));refine uE _ _ ⟨(j:Int)+1,(if x < 0 then -x else x) % (10 ^ 320),s,_,Ja,t1.trans t2,Qt,t2.keep _ _ yJ (by simpa using cp),by omega,by omega,⟨Int.emod_nonneg _ (by decide),Int.emod_lt_of_pos _ (by decide)⟩,⟨s0,s1⟩⟩
    rw [Qz g1];refine iteF ⟨_,Ja,_,_,Ja,Ja,_,Ja,?_⟩;by_cases g2:x < 0
    ·rw [Ya g2];refine iteT ?_;refine ⟨_,Ja,x,Ja,10,64,Ja,Ja,⟨by decide,by decide⟩,10,64,Ja,Ja,⟨by decide,by decide⟩,_,_,Ja,Ja,by unfold CMulW; decide +kernel,10,64,rfl,rfl,⟨by decide,by decide⟩,_,_,rfl,rfl,by unfold CMulW; decide +kernel,10,64,rfl,rfl,⟨by decide,by decide⟩,_,_,rfl,rfl,by unfold CMulW; decide +kernel,10,64,rfl,rfl,⟨by decide,by decide⟩,_,_,rfl,rfl,by unfold CMulW; decide +kernel,_,_,rfl,rfl,(by show (0:Int) < 10 ^ Int.toNat 64*10 ^ Int.toNat 64*10 ^ Int.toNat 64*10 ^ Int.toNat 64*10 ^ Int.toNat 64; decide +kernel),?_⟩;refine ⟨_,rfl,p,_,rfl,DPut.k (k:=Sum.inr "left") gA (by show 4 < sizeLine; decide),?_⟩;have t2:=SB.jI (ps:=[p]) gA (by simp) (.dK (gu c ((j:Int)+1) ((if x < 0 then -x else x) % (10 ^ 320)) s));refine uE _ _ ⟨(j:Int)+1,(if x < 0 then -x else x) % (10 ^ 320),s,_,Ja,t1.trans t2,Qt,t2.keep _ _ yJ (by simpa using cp),by omega,by omega,⟨Int.emod_nonneg _ (by decide),Int.emod_lt_of_pos _ (by decide)⟩,⟨s0,s1⟩⟩
    rw [Qz g2];refine iteF ?_;refine ⟨_,Ja,p,_,Ja,i5 gA (WA _ _ _ _),_,_,Ja,Ja,.inr ⟨by decide,by decide⟩,_,Ja,_,_,Ja,Ja,(by show (0:Int) < 2147483629; decide),_,_,rfl,rfl,_,_,rfl,rfl,(by show (0:Int) < 2147483647; decide),?_⟩;refine ⟨_,rfl,p,_,rfl,DPut.k (k:=Sum.inr "seed") gA (by show 4 < sizeLine; decide),?_⟩;have t2:=SB.jI (ps:=[p]) gA (by simp) (.dK (gu c ((j:Int)+1) l ((s*48271+x % 2147483629) % 2147483647)));have b1:=Int.emod_nonneg (s*48271+x % 2147483629) (show (2147483647:Int) ≠ 0 by decide);have b2:=Int.emod_lt_of_pos (s*48271+x % 2147483629) (show (0:Int) < 2147483647 by decide);exact uE _ _ ⟨(j:Int)+1,l,(s*48271+x % 2147483629) % 2147483647,_,Ja,t1.trans t2,Qt,t2.keep _ _ yJ (by simpa using cp),by omega,by omega,⟨l0,l1⟩,by omega,by omega⟩
   ·rw [Qz h1];exact iteF (uE _ _ ⟨a,l,s,_,Ja,stay,uC,hc,a0,a1,⟨l0,l1⟩,⟨s0,s1⟩⟩)
  ·rw [show decide (V.int l=V.int 0)=false from Qz (fun z=>h0 (by injection z))];exact iteF (uE _ _ ⟨a,l,s,_,Ja,stay,uC,hc,a0,a1,⟨l0,l1⟩,⟨s0,s1⟩⟩)
 ·obtain ⟨a,l,s,o2,rfl,s2,fB,mL,a0,a1,⟨l0,l1⟩,⟨s0,s1⟩⟩:=h;have cp:c ≠ p:=fun z=>by rw [z,fB] at mL; cases mL
  refine NF (fun σ' G2=>σ'=[some (.ref p),some (.int m),o2,none,none]/\G2=G/\l=0) (fun nx uE=>?_) (fun σ' G2 h=>?_)
  ·refine ⟨_,Ja,p,_,Ja,i5 fB (NL _ _ _ _),_,_,Ja,Ja,_,Ja,?_⟩;by_cases h0:0 < l
   ·rw [Ya h0];refine iteT ?_;refine ⟨_,Ja,p,_,Ja,i5 fB (NL _ _ _ _),_,Ja,_,_,Ja,Ja,(show (0:Int) < m by omega),?_⟩;refine fQ ?_;refine ⟨_,Ja,p,_,Ja,i5 fB (NL _ _ _ _),_,Ja,_,_,Ja,Ja,⟨by omega,Nat.lt_of_lt_of_le ((Nat.log2_lt (show m.natAbs ≠ 0 by omega)).mpr (show m.natAbs < 2 ^ 2000 by omega)) (by decide)⟩,?_⟩;refine ⟨_,rfl,p,_,rfl,DPut.k (k:=Sum.inr "left") fB (by show 4 < sizeLine; decide),?_⟩;have t2:=SB.jI (ps:=[p]) fB (by simp) (.dK (gu c a (l / m) s));refine ⟨_,Ja,q _ _ (Int.emod_nonneg _ (by omega)) (Int.emod_lt_of_pos _ (by omega)) (s2.trans t2) ⟨ns,a,l / m,s,Qt,t2.keep _ _ mL (by simpa using cp),nl,a0,a1,⟨Int.ediv_nonneg l0 (by omega),Int.lt_of_le_of_lt (Int.ediv_le_self m l0) l1⟩,⟨s0,s1⟩⟩⟩
   ·rw [Qz h0];exact iteF (uE _ _ ⟨rfl,Ja,by omega⟩)
  ·obtain ⟨rfl,rfl,rfl⟩:=h;have e31:(2:Int) ^ 31=2147483648:=by decide
   refine ⟨_,Ja,p,_,Ja,i5 fB (WA _ _ _ _),_,_,Ja,Ja,.inr ⟨by decide,by decide⟩,_,_,Ja,Ja,_,_,Ja,Ja,(by show (0:Int) < 2147483629; decide),?_⟩;have b1:=Int.emod_nonneg (s*69621+16807) (show (2147483629:Int) ≠ 0 by decide);have b2:=Int.emod_lt_of_pos (s*69621+16807) (show (0:Int) < 2147483629 by decide);refine fQ ?_;refine ⟨_,rfl,_,rfl,p,_,rfl,DPut.k (k:=Sum.inr "seed") fB (by show 4 < sizeLine; decide),?_⟩;have t2:=SB.jI (ps:=[p]) fB (by simp) (.dK (gu c a 0 ((s*69621+16807) % 2147483629)));have m1:CMul ((s*69621+16807) % 2147483629) ((s*69621+16807) % 2147483629):=.inl ⟨Int.lt_of_lt_of_le (by decide) b1,Int.lt_trans b2 (by decide)⟩;refine ⟨_,Ja,_,Ja,_,_,Ja,Ja,m1,_,_,Ja,Ja,(by show (0:Int) < 2147483587; decide),_,_,rfl,rfl,.inr ⟨by decide,by decide⟩,_,rfl,_,_,rfl,rfl,⟨by decide,by decide⟩,_,_,rfl,rfl,_,rfl,_,_,rfl,rfl,(show (0:Int) < m by omega),?_⟩;exact q _ _ (Int.emod_nonneg _ (by omega)) (Int.emod_lt_of_pos _ (by omega)) (s2.trans t2) ⟨ns,a,0,((s*69621+16807) % 2147483629),Qt,t2.keep _ _ mL (by simpa using cp),nl,a0,a1,⟨by omega,by decide⟩,⟨b1,by omega⟩⟩
abbrev zeo:List Str:=[jB,"_law_found","_law_tree",aJ]
theorem cB:FnScope zeo [jB] (defScope Hk):=fS
theorem z69 (B:BI mg) (F:Fun K cU cU Hk f fd):FnOk P w K mg base CX0 1 f fd [jB] (VW K):=by
 refine F.ok cB (fun vs H Q E h=>?_) (fun _ A _ _ H vs Q E hr h=>?_)
 ·obtain ⟨a,xs,bs,rfl,_⟩:=h
  rfl
 obtain ⟨a,xs,as,rfl,hs,jU,hl,⟨C,ho⟩,q⟩:=h;have bq:=bh hr;refine ⟨_,Qc (ps_set (i:=1) cB.nd rfl (.inl rfl) (pe_lst Qb))
  (Qc (ps_for PassesOwn.never rfl (pi_list (Qs (zba Gr.aG (by show A.units+3+110 < cLine; omega)) rfl B.sorted (by decide +kernel) (Qa (pv 0) Qb))) (pg_tup rfl (Qi (pg_name (i:=2) cB.nd rfl (.inl rfl)) (Qi (pg_name (i:=3) cB.nd rfl (.inl rfl)) pgs_nil)))
   (Qc (Qr (PW.pt (pw_and (pt_cmpR (op_neD (Dm hr)) (pv 1) (pe_lst Qb) (nomark _)) (pw_and1 (pt_cmpR (op_eqD (Dm hr)) (Qm Ql (Qm ix_list (pv 1) (pe_un un_neg Qg) (fun _ _=>rfl)) Qg (fun _ _=>rfl)) (pv 2) (nomark _)))))
    (Qe (ps_set (i:=3) cB.nd rfl (.inl rfl) (pe_op Ko (pv 3) (Qm Ql (pe_bm0 Ki PySem.F.slot_list_pop PySem.F.type_list_pop mt_pop (pv 1)) Qg (fun _ _=>rfl))))) pss_nil)
   (Qe (Kf (Kn Ki PySem.F.slot_list_append PySem.F.type_list_append mt_append (pv 1) (Qa (Ka (Qa (pv 2) (Qa (pv 3) Qb))) Qb))))))
  (Qe (Qj (pe_callTy call_tuple_of rfl B.tuple boot_tuple (Qa (pv 1) Qb))))),?_⟩
 refine ⟨(Z0),fun D hD=>?_⟩;have t0:=Jb hD (.lst []);have S7:(upd H D (.lst [])) D=some (.lst []):=Qt;generalize hH0:upd H D (.lst [])=H0 at t0 S7;have Jp:SqL K H0 a xs\/SqT K H0 a xs:=hs.imp (fun h=>t0.fu aL h) fun h=>t0.aP h;refine ⟨_,Ja,a,_,as,Ja,Jp,jU.sb t0 Gr.aj,Gr.jO _,Gr.eV _,by omega,fun p hp=>?_,fun p1 zs gA hz=>?_⟩
 ·have:=Gr.eH p;have:=(ho p hp).2.2;omega
 have s1:=Jb gA (.lst zs);have Oi:Bears K (upd H0 p1 (.lst zs)) Gr.aG zs (nq Gr.aG as):=hz.sb s1 Gr.aj;have bW:=s1.keep _ _ S7 aL;have xc:SqL K (upd H0 p1 (.lst zs)) p1 zs:=SqL.of Qt;have p1D:p1 ≠ D:=fun z=>by subst z; rw [S7] at gA; cases gA
 generalize hH3:upd H0 p1 (.lst zs)=H3 at s1 Oi bW xc;clear hz;generalize oC:nq Gr.aG as=bs at Oi;have Gk:∀ p ∈ bs,fm p.1.1/\p.1.2.Ok C/\p.1.2.deep<=18:=by
  intro p hp;rw [<- oC] at hp;exact ho p ((zS as).mem_iff.mp hp)
 have ya9:bs.length<=1000:=by rw [<- oC,(zS as).length_eq]; exact hl
 have zl:=Oi.length;refine ⟨p1,Ja,⟨zs,xc⟩,?_⟩;refine for_list (K:=K) (a:=p1) (xs:=zs) (fun i σ H2=>SB [D] H3 H2/\∃ acc o2 o3,σ=[some (.ref a),some (.ref D),o2,o3]/\H2 D=some (.lst acc)/\Bears K H2 Gr.aG acc (jn (bs.take i))) ⟨SB.refl,[],none,none,Ja,bW,.nil⟩ (fun i σ H2 hi h2=>h2.1.fu (by simpa using p1D) xc) (fun i x σ H2 hx h2=>?_) (fun σ H2 h2=>?_)
 ·obtain ⟨s2,acc,o2,o3,rfl,aW,bY⟩:=h2;obtain ⟨p,ep,eJ⟩:=Oi.get hx;have pm:=Qu ep;obtain ⟨ad,tx,ux,rfl,xb,_,_,yF⟩:=nj eJ;have al:=bY.length;have jl:=NY (bs.take i);rw [Kx] at jl;rw [O9 bs i p ep];have qj:Dp K H2 (.ref tx) (Gr.aC p.1):=fK s2 _ _ (Gr.ay _) yF;refine ⟨ad,_,Ja,s2.aP xb,Ja,_,_,Ja,_,_,Ja,Ja,?_⟩;refine ⟨_,Ja,(Z0),fun e0 OD=>?_⟩;have t3:=SB.new (ps:=[D]) OD (.lst []);have bW:(upd H2 e0 (.lst [])) D=some (.lst acc):=by rw [upd_ne (ne_of_none aW OD)]; exact aW
  have jd:∀ p ∈ jn (bs.take i),fm p.1.1/\p.1.2.Ok C/\p.1.2.deep<=18:=by
   intro p hp;obtain ⟨q2,sW,e2⟩:=BL _ p hp;rw [<- e2]; exact Gk q2 (List.mem_of_mem_take sW)
  have gI:=bY.sb t3 Gr.aj;have Ee:=fK t3 _ _ (Gr.ay _) qj;have JQ:(upd H2 e0 (.lst [])) e0=some (.lst []):=Qt;generalize hH4:upd H2 e0 (.lst [])=H4 at t3 bW gI Ee JQ;refine ⟨.list ((jn (bs.take i)).map Gr.aG),.list [],Dp.lst (SqL.of bW) gI.dp,Dp.lst (SqL.of JQ) .nil,Gr.rD ⟨C,jd⟩,by decide +kernel,_,Ja,?_⟩;have s24:=s2.trans t3;have app:∀ (us:List V) (js:List (Tr × Int)) (m:Int) (H5:Hp),SB [D] H4 H5->H5 D=some (.lst us)->Bears K H5 Gr.aG us js->us.length<=1000->fb (jn (bs.take i)) p=js++[(p.1,m)] ->
    tDrop (tBM K "list" rAppend (tVar 1) (tCons (tTup (tCons (tVar 2) (tCons (tVar 3) tNil))) tNil)) { nx:=fun σ H2=>SB [D] H3 H2/\∃ acc o2 o3,σ=[some (.ref a),some (.ref D),o2,o3]/\H2 D=some (.lst acc)/\Bears K H2 Gr.aG acc (fb (jn (bs.take i)) p),rt:=Q } [some (.ref a),some (.ref D),some (.ref tx),some (.int m)] H5:=by
   intro us js m H5 s5 eW Em A3 e;rw [e];refine ⟨_,Ja,.inl ⟨rfl,_,SqL.of eW⟩,_,Ja,_,Ja,(Z2),fun t ht=>?_⟩;have t6:=SB.new (ps:=[D]) ht (.tup [.ref tx,.int m]);have i4:(upd H5 t (.tup [.ref tx,.int m])) D=some (.lst us):=by rw [upd_ne (ne_of_none eW ht)]; exact eW
   refine ⟨D,us,_,Ja,Ja,i4,xE (Yb A3 (by decide)),?_⟩;have t7:=SB.set (ps:=[D]) i4 (by simp) (.lst (us++[.ref t]));exact ⟨((s24.trans s5).trans t6).trans t7,_,_,_,Ja,Qt,Bears.append ((Em.sb t6 Gr.aj).sb t7 Gr.aj) (.cons (Dp.tup (t7.aP (SqT.of Qt)) (.cons (fK ((s5.trans t6).trans t7) _ _ (Gr.ay _) Ee) (.cons (.int _) .nil))) .nil)⟩
  rcases List.eq_nil_or_concat (jn (bs.take i)) with he | ⟨js,z,he⟩
  ·rw [he] at gI app;rw [he];cases gI;refine iteF (iteF ?_);exact app [] [] p.2 H4 SB.refl bW .nil (by simp) rfl
  ·rw [List.concat_eq_append] at he;rw [he] at gI app jd;rw [he];obtain ⟨us,u,rfl,B6,hu⟩:=gI.snoc;obtain ⟨az,tz,uz,rfl,oz,_,_,JR⟩:=nj hu;obtain ⟨zn,zo,zd⟩:=jd z (by simp);obtain ⟨pn,po,pd⟩:=Gk p pm;have e0:(!PyData.eqv (.list ((js++[z]).map Gr.aG)) (.list []))=true:=by
    cases js <;> simp [PyData.eqv,PyData.eqvAll]
   rw [e0];refine iteT ?_;refine ⟨_,Ja,1,Ja,D,_,_,_,Ja,Ja,SqL.of bW,BN,az,_,_,_,Ja,Ja,oz,atI_nat (j:=0) rfl,_,Ja,Gr.aC z.1,Gr.aC p.1,JR,Ee,Gr.kS zn zo (by omega),Gr.kS pn po (by omega),_,Ja,?_⟩;rw [Orderly.eq (enc:=Gr.aC)];have ul:us.length<=1000:=by rw [Yf] at al; omega
   by_cases hz:z.1=p.1
   ·rw [show decide (z.1=p.1)=true by simp [hz]];refine iteT ?_;refine ⟨_,Ja,_,Ja,.inl ⟨rfl,_,SqL.of bW⟩,D,_,_,Ja,Ja,bW,(by simp:(us++[V.ref az])[(us++[V.ref az]).length-1]?=some (V.ref az)),?_⟩;have ed:(us++[V.ref az]).dropLast=us:=by simp
    rw [ed];have t6:=SB.set (ps:=[D]) bW (by simp) (.lst us);refine ⟨az,_,_,_,Ja,Ja,t6.aP oz,atI_nat (j:=1) rfl,_,_,Ja,Ja,?_⟩;refine app us js (p.2+z.2) _ t6 Qt (B6.sb t6 Gr.aj) ul ?_;rw [pA,if_pos hz,Int.add_comm]
   ·rw [show decide (z.1=p.1)=false by simp [hz]];refine iteF ?_;refine app _ (js++[z]) p.2 H4 SB.refl bW gI (by rw [Yf,Yi] at al ⊢; omega) ?_;rw [pA,if_neg hz]
 ·obtain ⟨s2,acc,o2,o3,rfl,aW,bY⟩:=h2;rw [zl,Yh] at bY;refine ⟨_,Ja,D,acc,Ja,.inl ⟨SqL.of aW,fun t ht=>?_⟩⟩;have t3:=Jb ht (.tup acc);refine q _ _ ((((t0.trans s1).nil.trans s2).drop hD).trans t3) ?_;have e:Gr.tidy as=Gr.ofPs (jn bs):=by rw [<- oC]; rfl
  rw [e];exact Il (SqT.of Qt) (bY.sb t3 Gr.aj)
end
theorem zgv {K:Qn} {H:Hp} {σ:L2.St} {jP jL jV:Nat} {wi:TI} (hk:k<=1000) (h1:∀ x,((wipe σ [jV]).set jV (some x))[jP]?=some (some (.ref p))) (h2:∀ x,((wipe σ [jV]).set jV (some x))[jL]?=some (some (.str ti)))
  (h3:∀ x,wipe ((wipe σ [jV]).set jV (some x)) [jV]=wipe σ [jV]) (hwi:∀ R:It->Hp->Prop,R (Itr 0 k) H->wi σ H R) (hp:cm H p c) (q:∀ z H',SB [p] H H'->cm H' p c->jz z k->Q (.str z) H') :
  tM1 (zge K) (tC (.str (Str.ofString ""))) (tLc wi (gName jV) tYes (tOp rIxS (tVar jL) (tCall Ai [] E0 (tCons (tVar jP) (tCons (tC (.int 26)) tNil)))) [jV]) σ H Q:=by
 refine ⟨⟨_,Ja⟩,hwi _ fun D hD=>?_⟩;have iV:=sizeLine_eq;refine zf7 walk_range [p] hD hp.some (by omega) (fun i us H2=>cm H2 p c/\∃ cs:List Nat,us=cs.map (fun c=>V.str ⟨#[c]⟩)/\cs.length=i/\∀ c ∈ cs,97<=c/\c<=122) ⟨hp,[],Ja,Ja,by simp⟩ (fun _ _=>trivial) (fun i us H2 H3 e ⟨a,b⟩=>⟨a.keep e (by simpa using hp.ne hD) (by simpa using hp.nc hD),b⟩) (fun Pv i x H2 H' us hi s2 y hR hl fin _=>?_) (fun us H2 s2 aW hR hl=>?_)
 ·obtain ⟨rfl,rfl⟩:=y;obtain ⟨fB,cs,rfl,cl,co⟩:=hR;refine ⟨h3 _,_,h2 _,?_⟩;refine ⟨_,h1 _,p,c,26,Ja,fB,by decide,by decide,fun r H3 r0 r26 s3 mY=>?_⟩;obtain ⟨n,rfl⟩:∃ n:Nat,r=(n:Int):=⟨r.toNat,by omega⟩;obtain ⟨c,hc,hco⟩:=zgc n (by omega);refine ⟨_,_,c,Ja,Ja,VI,NU hc,fin _ _ s3 ⟨mY,cs++[c],by rw [Yj]; rfl,by simp [cl],fun d hd=>?_⟩⟩;rcases Qw hd with hd | hd
  ·exact co d hd
  ·rw [Qy hd]; exact hco
 ·obtain ⟨fB,cs,rfl,cl,co⟩:=hR;have e1:(cs.map fun c=>V.str ⟨#[c]⟩)=(cs.map fun c=>(⟨#[c]⟩:Str)).map V.str:=by rw [List.map_map]; rfl
  rw [e1] at aW;refine ⟨_,D,cs.map fun c=>⟨#[c]⟩,Ja,Ja,.inl (SqL.of aW),?_,q _ _ s2 fB (by have:=zbr cs co; rw [cl] at this; exact this)⟩;have:∀ cs:List Nat,((cs.map fun c=>(⟨#[c]⟩:Str)).map (·.length)).sum=cs.length:=by
   intro cs
   induction cs with
   | nil=>rfl
   | cons c r ih=>rw [Ky,Ky,List.sum_cons,ih]; show 1+r.length=r.length+1; omega
  rw [this,Ye,cl];have:(Str.ofString "").length=0:=by decide +kernel
  rw [this]; omega
theorem jz.CH (h:jz z n) (a:Nat):jz (cutS z (some (a:Int)) none) (n-min a n):=by
 have hl:=h.len;have e:(cutS z (some (a:Int)) none).cps.toList=z.cps.toList.drop (min a n):=by
  unfold cutS;rw [HT.sIx_nat,HT.sIx_none,hl];have:=h.1;rw [List.take_of_length_le (by rw [List.length_drop]; omega)]
 unfold jz;rw [e,List.length_drop,h.1];exact ⟨rfl,fun c hc=>h.2 c (List.mem_of_mem_drop hc)⟩
section
variable {P:Program} {w:World} {K:Qn} {mg:Str->Option Value} {base:Heap} {f:Addr} {fd:FuncData}
abbrev Nn:List Str:=[ah,aJ,"_law_letters","_law_size","_law_stem","_law_at","_law_first","_law_step","_law_k"]
theorem eG:FnScope Nn [ah,aJ] (defScope BH):=fS
theorem zfn (B:BI mg) (df:Got P w K mg base bV [ah,aJ] (1) (Ai)) (F:Fun K fh fh BH f fd):FnOk P w K mg base CX0 (2) f fd [ah,aJ] (WO K):=by
 refine F.ok eG (fun vs H Q E h=>?_) (fun _ A _ _ H vs Q E hr h=>?_)
 ·obtain ⟨p,cl,m,rfl,_⟩:=h
  rfl
 obtain ⟨p,cl,m,rfl,hp,m1,m8,q⟩:=h;have bq:=bh hr;refine ⟨_,Qc (ps_set (i:=2) eG.nd rfl (.inr rfl) pe_str)
  (Qc (ps_set (i:=3) eG.nd rfl (.inl rfl) (pe_op Ko Qg (bc df (Hm hr) rfl (Qa (pv 0) (Qa Qg Qb)))))
  (Qc (ps_set (i:=4) eG.nd rfl (.inr rfl) (pe_join pe_str (pe_lc (own:=[("_law_k",8)]) (g:=(gName 8)) (tt:=tYes) (te:=(tOp rIxS (tVar 2) (tCall (Ai) [] E0 (tCons (tVar 0) (tCons (tC (.int 26)) tNil))))) rfl eG.nd (pi_range1 rfl B.range (Qa (pv 3) Qb)) (blkOk_by (N:=Nn) (sc:=defScope BH) (by decide +kernel)) (fun _ _ _ _ _=>(pg_name (i:=8) eG.nd rfl (.inl rfl))) (fun _ _ _ _ _=>pts_nil) (fun _ _ _ _ _=>(Qm ix_str (pv 2) (bc df (Hm hr) rfl (Qa (pv 0) (Qa Qg Qb))) (fun _ _=>rfl))))))
  (Qc (Qr (pt_cmpR op_eq (bc df (Hm hr) rfl (Qa (pv 0) (Qa Qg Qb))) Qg (nomark _)) (Qe (Qj (pe_lc (own:=[("_law_k",8)]) (g:=(gName 8)) (tt:=tYes) (te:=(tOp U2 (tOp rIxS (tVar 4) (tC (.int 0))) (tOp (rI0 fun i j=>.int (i-j)) (tVar 1) (tVar 8)))) rfl eG.nd (pi_range1 rfl B.range (Qa (pv 1) Qb)) (blkOk_by (N:=Nn) (sc:=defScope BH) (by decide +kernel)) (fun _ _ _ _ _=>(pg_name (i:=8) eG.nd rfl (.inl rfl))) (fun _ _ _ _ _=>pts_nil) (fun _ _ _ _ _=>(pe_op zet (Qm ix_str (pv 4) Qg (fun _ _=>rfl)) (pe_op op_sub (pv 1) (pv 8))))))) pss_nil)
  (Qc (ps_set (i:=5) eG.nd rfl (.inr rfl) (bc df (Hm hr) rfl (Qa (pv 0) (Qa (pv 3) Qb))))
  (Qc (ps_set (i:=6) eG.nd rfl (.inr rfl) (bc df (Hm hr) rfl (Qa (pv 0) (Qa Qg Qb))))
  (Qc (ps_set (i:=7) eG.nd rfl (.inr rfl) (pe_op Ko Qg (bc df (Hm hr) rfl (Qa (pv 0) (Qa Qg Qb)))))
  (Qe (Qj (pe_lc (own:=[("_law_k",8)]) (g:=(gName 8)) (tt:=tYes) (te:=(tOp (fun x y H Q=>∃ i j,x=.str i/\y=.str j/\i.length+j.length<=sizeLine/\Q (.str (i++j)) H) (tOp (fun x y H Q=>∃ i j,x=.str i/\y=.str j/\i.length+j.length<=sizeLine/\Q (.str (i++j)) H) (tSl rSlS (tVar 4) tNoPart (tPart (tVar 5))) (tOp rIxS (tVar 2) (tOp (rI (fun _ j=>0 < j) fun i j=>.int (i % j)) (tOp (rI0 fun i j=>.int (i+j)) (tVar 6) (tOp (rI CMul fun i j=>.int (i*j)) (tVar 8) (tVar 7))) (tC (.int 26))))) (tSl rSlS (tVar 4) (tPart (tOp (rI0 fun i j=>.int (i+j)) (tVar 5) (tC (.int 1)))) tNoPart))) rfl eG.nd (pi_range1 rfl B.range (Qa (pv 1) Qb)) (blkOk_by (N:=Nn) (sc:=defScope BH) (by decide +kernel)) (fun _ _ _ _ _=>(pg_name (i:=8) eG.nd rfl (.inl rfl))) (fun _ _ _ _ _=>pts_nil) (fun _ _ _ _ _=>(pe_op op_add_str (pe_op op_add_str (pe_slice sl_str (pv 4) po_none (po_some (pv 5))) (Qm ix_str (pv 2) (pe_op op_mod (pe_op Ko (pv 6) (pe_op op_mul (pv 8) (pv 7))) Qg) (fun _ _=>rfl))) (pe_slice sl_str (pv 4) (po_some (pe_op Ko (pv 5) Qg)) po_none)))))))))))),?_⟩
 have iV:=sizeLine_eq;refine fQ (IF (Me ?_));refine ⟨_,Ja,p,cl,8,Ja,hp,by decide,by decide,fun r1 H1 Q6 r18 s1 gA=>?_⟩;obtain ⟨zW,rfl⟩:∃ u:Nat,r1=(u:Int):=⟨r1.toNat,by omega⟩;refine ⟨_,_,Ja,Ja,?_⟩;refine fQ (IF (Me ?_));refine zgv (k:=1+zW) (jP:=0) (jL:=2) (jV:=8) (c:=cl) (σ:=[some (.ref p),some (.int (m:Int)),some (.str ti),some (.int ((1:Int)+(zW:Int))),none,none,none,none,none]) (by omega) (fun _=>rfl) (fun _=>rfl) (fun _=>rfl) (fun R hR=>⟨_,Ja,(1:Int)+(zW:Int),Ja,by omega,by omega,by rw [show ((1:Int)+(zW:Int)).toNat=1+zW by omega]; exact hR⟩) gA (fun st H2 s2 fB i9=>?_);have sl:=i9.len;refine fQ (ifI ?_);refine ⟨_,Ja,p,cl,3,Ja,fB,by decide,by decide,fun r3 H3 r30 r33 s3 mY=>?_⟩;refine ⟨rfl,_,Ja,?_⟩;have g7:SB [p] H H3:=(s1.trans s2).trans s3;refine ite2 (fun _=>?_) (fun _=>?_)
 ·obtain ⟨c0,Zs⟩:∃ c0,st.cps.toList[0]?=some c0:=⟨_,Kp (by rw [i9.1]; omega)⟩;have Sv:=i9.2 c0 (Qu Zs)
  let wA:Nat->Str:=fun i=>Txt.mul ⟨#[c0]⟩ ((m-i:Nat):Int)
  have lA:∀ i,jz (wA i) (m-i):=fun i=>jz.mul _ Sv;refine ⟨_,Ja,_,Ja,by omega,by omega,fun D hD=>?_⟩;rw [Int.toNat_natCast];refine tu walk_range hD (by omega) (fun i us _=>us=((List.range i).map wA).map V.str) rfl (fun _ _=>trivial) (fun _ _ _ _ _ h=>h) (fun Pv i x Hx H' us hi sx y hR hl fin _=>?_) (fun us Hx sx S3 hR hl=>?_)
  ·obtain ⟨rfl,rfl⟩:=y;have e1:(m:Int)-(0+(i:Int))=((m-i:Nat):Int):=by omega
   refine ⟨rfl,?_⟩;refine ⟨_,Ja,st,0,c0,Ja,Ja,by omega,NU (j:=0) Zs,_,Ja,_,Ja,_,_,Ja,Ja,⟨#[c0]⟩,m-i,Ja,congrArg V.int e1,by omega,by show 1<=1000; decide,?_⟩;refine fin _ _ SB.refl ?_;rw [hR,List.range_succ,Yj,Yj]
   rfl
  ·subst hR;refine q D _ Hx (g7.trans sx.nil) (mY.sb sx) (g7.kh _ hD) S3 (by simp) (nodup_range fun i j hi hj hn e=>?_) (fun k hk=>?_)
   ·have e1:=(lA i).1;rw [e,(lA j).1] at e1;omega
   ·obtain ⟨i,hi,rfl⟩:=Qx hk;have hi:=List.mem_range.mp hi;exact (lA i).name (by omega) (by omega)
 ·refine ⟨_,Ja,_,Ja,p,cl,_,Ja,mY,by omega,by omega,fun r4 H4 r40 X1 s4 nP=>?_⟩;obtain ⟨at_,rfl⟩:∃ u:Nat,r4=(u:Int):=⟨r4.toNat,by omega⟩;refine fQ ?_;refine ⟨_,Ja,p,cl,26,Ja,nP,by decide,by decide,fun r5 H5 r50 r5m s5 sZ=>?_⟩;obtain ⟨bg,rfl⟩:∃ u:Nat,r5=(u:Int):=⟨r5.toNat,by omega⟩;refine fQ ?_;refine ⟨_,Ja,p,cl,3,Ja,sZ,by decide,by decide,fun r6 H6 r60 r6m s6 sY=>?_⟩;obtain ⟨sp,rfl⟩:∃ u:Nat,r6=(u:Int):=⟨r6.toNat,by omega⟩;refine ⟨_,_,Ja,Ja,?_⟩;refine fQ ?_;have zY:SB [p] H H6:=((g7.trans s4).trans s5).trans s6;have tc:at_ < 1+zW:=by omega
  let wd:Nat->Str:=fun i=>cutS st none (some (at_:Int))++⟨#[97+(bg+i*(1+sp)) % 26]⟩++cutS st (some ((at_+1:Nat):Int)) none
  have la':=(i9.take at_).len;have lb:=(i9.CH (at_+1)).len;have key:∀ i,jz (wd i) (min at_ (1+zW)+1+(1+zW-min (at_+1) (1+zW))):=fun i=>((i9.take at_).append (jz.one (by omega))).append (i9.CH (at_+1));refine ⟨_,Ja,_,Ja,by omega,by omega,fun D hD=>?_⟩;rw [Int.toNat_natCast];refine tu walk_range hD (by omega) (fun i us _=>us=((List.range i).map wd).map V.str) rfl (fun _ _=>trivial) (fun _ _ _ _ _ h=>h) (fun Pv i x Hx H' us hi sx y hR hl fin _=>?_) (fun us Hx sx S3 hR hl=>?_)
  ·obtain ⟨rfl,rfl⟩:=y;have e4:((bg:Int)+(0+(i:Int))*(1+(sp:Int))) % 26=(((bg+i*(1+sp)) % 26:Nat):Int):=by
    rw [Int.zero_add]; push_cast; rfl
   refine ⟨rfl,?_⟩;refine ⟨_,Ja,_,Ja,_,Ja,st,Ja,by omega,_,Ja,_,Ja,_,Ja,_,Ja,_,_,Ja,Ja,.inl ⟨by show (-(2 ^ 64):Int) < 0+(i:Int); omega,by show 0+(i:Int) < 2 ^ 64; omega⟩,_,_,rfl,rfl,_,_,rfl,rfl,(by show (0:Int) < 26; decide),ti,_,97+(bg+i*(1+sp)) % 26,rfl,rfl,VI,?_,_,_,rfl,rfl,?_,?_⟩
   ·show atI ti.cps.toList (((bg:Int)+(0+(i:Int))*(1+(sp:Int))) % 26)=_;rw [e4];exact NU (zdl _ (by omega))
   ·rw [la']; show _+1<=_; omega
   have ea:(at_:Int)+1=((at_+1:Nat):Int):=by omega
   refine ⟨_,Ja,_,Ja,_,_,Ja,Ja,_,Ja,st,Ja,by omega,_,_,Ja,Ja,?_,?_⟩
   ·show (cutS st none (some (at_:Int))++(⟨#[97+(bg+i*(1+sp)) % 26]⟩:Str)).length+(cutS st (some ((at_:Int)+1)) none).length<=sizeLine;have h1:(cutS st none (some (at_:Int))++(⟨#[97+(bg+i*(1+sp)) % 26]⟩:Str)).length=min at_ (1+zW)+1:=((i9.take at_).append (jz.one (c:=97+(bg+i*(1+sp)) % 26) (by omega))).len;rw [h1,ea,lb]; omega
   refine fin _ _ SB.refl ?_;rw [hR,List.range_succ,Yj,Yj];show _++[V.str (cutS st none (some (at_:Int))++(⟨#[97+(bg+i*(1+sp)) % 26]⟩:Str)++cutS st (some ((at_:Int)+1)) none)]=_;rw [ea]
   rfl
  ·subst hR;refine q D _ Hx (zY.trans sx.nil) (sY.sb sx) (zY.kh _ hD) S3 (by simp) (nodup_range fun i j hi hj hn e=>?_) (fun k hk=>?_)
   ·have e1:=(i9.take at_).mid (c:=97+(bg+i*(1+sp)) % 26) (b:=cutS st (some ((at_+1:Nat):Int)) none);have e2:=(i9.take at_).mid (c:=97+(bg+j*(1+sp)) % 26) (b:=cutS st (some ((at_+1:Nat):Int)) none);have e':cutS st none (some (at_:Int))++(⟨#[97+(bg+i*(1+sp)) % 26]⟩:Str)++cutS st (some ((at_+1:Nat):Int)) none=cutS st none (some (at_:Int))++(⟨#[97+(bg+j*(1+sp)) % 26]⟩:Str)++cutS st (some ((at_+1:Nat):Int)) none:=e;rw [e',e2] at e1
    injection e1 with e1
    have:sp=0\/sp=1\/sp=2:=by omega
    rcases this with rfl | rfl | rfl <;> omega
   ·obtain ⟨i,hi,rfl⟩:=Qx hk;exact (key i).name (by omega) (by omega)
end
theorem KdAll.ID {K:Qn} {H:Hp} {bad:List Addr} {D:Addr} {od:Obj} {aQ:List (Key × V)} {u:HO} (h:H D=some (.frz od (.dK aQ))):∀ {vs:List V} {b:Bk},KdAll K H bad vs b->KdAll K (upd H D u) bad vs b
 | _,_,.nil=>.nil
 | _,_,.cons ⟨t,l,zs,e1,e2,e3,e4,e5⟩ r=>.cons ⟨t,l,zs,e1,VQ h _ _ e2,by rw [upd_ne (fun z=>by rw [z,h] at e3; cases e3)]; exact e3,e4.tp (VQ h) Ru.ag,e5⟩ (KdAll.ID h r)
theorem KdAll.rev {K:Qn} {H:Hp} {bad:List Addr}:∀ {vs:List V} {b:Bk},KdAll K H bad vs b->KdAll K H bad vs.reverse b.reverse
 | _,_,.nil=>.nil
 | _,_,.cons h r=>by
  rw [List.reverse_cons,List.reverse_cons];exact (KdAll.rev r).append (.cons h .nil)
section
variable {P:Program} {w:World} {K:Qn} {mg:Str->Option Value} {base:Heap} {f:Addr} {fd:FuncData}
abbrev Vf:List Str:=[a6,lI,"_law_found","_law_name","_law_spreads","_law_rules"]
theorem lZ:FnScope Vf [a6,lI] (defScope E5):=fS
theorem zgb (B:BI mg) (F:Fun K fj fj E5 f fd):FnOk P w K mg base CX0 (1) f fd [a6,lI] (Wv K):=by
 refine F.ok lZ (fun vs H Q E h=>?_) (fun _ A _ s H vs Q E hr h=>?_)
 ·obtain ⟨d,b,t,rfl,_⟩:=h
  rfl
 obtain ⟨d,b,t,rfl,hd,ybb,q⟩:=h;have bq:=bh hr;refine ⟨_,Qc (ps_lock (ps_setLc (i:=2) (own:=[("_law_name",3),("_law_spreads",4),("_law_rules",5)]) (g:=(gTup K 2 (gCons (gName 3) (gCons (gTup K 2 (gCons (gName 4) (gCons (gName 5) gNil))) gNil)))) (tt:=tYes) (te:=(tTup (tCons (tVar 3) (tCons (tVar 4) (tCons (tCB (fun xs H Q=>∃ p ys,xs=[.ref p]/\(SqL K H p ys\/SqT K H p ys)/\∀ l,H l=none->Q (.ref l) (upd H l (.lst ys))) (tCons (tVar 5) tNil)) tNil))))) rfl lZ.nd rfl rfl (sw_true rfl rfl rfl (by decide +kernel)) (pi_items (pv 0)) (blkOk_by (N:=Vf) (sc:=defScope E5) (by decide +kernel)) (fun _ _ _ _ _=>(pg_tup rfl (Qi (pg_name (i:=3) lZ.nd rfl (.inl rfl)) (Qi (pg_tup rfl (Qi (pg_name (i:=4) lZ.nd rfl (.inl rfl)) (Qi (pg_name (i:=5) lZ.nd rfl (.inl rfl)) pgs_nil))) pgs_nil)))) (fun _ _ _ _ _=>pts_nil) (fun _ _ _ _ _=>(Ka (Qa (pv 3) (Qa (pv 4) (Qa (pe_callTy call_list_of rfl B.list boot_list (Qa (pv 5) Qb)) Qb)))))))
  (Qe (Qj (Qm ix_list (pe_lst (Qa (pv 2) (Qa (pe_revL (pv 2)) Qb))) (pe_callTy call_int1 rfl B.int boot_int (Qa (pv 1) Qb)) (fun _ _=>rfl)))),?_⟩
 have iV:=sizeLine_eq;obtain ⟨us,nQ,fc⟩:=hd;have ul:=fc.length;have kl:(gj b.names us).length=b.length:=by
  show (List.zipWith _ _ _).length=_;rw [List.length_zipWith,Ye]; omega
 refine ⟨d,_,nQ,trivial,fun od=>?_⟩;have hL:∀ l xs,H l=some (.lst xs)->upd H d (.frz od (.dK (gj b.names us))) l=some (.lst xs):=fun l xs h=>by rw [upd_ne (fun z=>by rw [z,nQ] at h; cases h)]; exact h
 have hT:∀ a xs,SqT K H a xs->SqT K (upd H d (.frz od (.dK (gj b.names us)))) a xs:=fun a xs s=>by
  rcases s with (s | ⟨o,s⟩) | s
  ·exact .inl (.inl (by rw [upd_ne (fun z=>by rw [z,nQ] at s; cases s)]; exact s))
  ·exact .inl (.inr ⟨o,by rw [upd_ne (fun z=>by rw [z,nQ] at s; cases s)]; exact s⟩)
  ·exact .inr s
 have yC:z0i (EO K (upd H d (.frz od (.dK (gj b.names us))))) us b:=fc.mono fun v k ⟨t,l,zs,e1,e2,e3,e4⟩=>⟨t,l,zs,e1,hT _ _ e2,hL _ _ e3,e4.tp hT Ru.ag⟩;have qQ:upd H d (.frz od (.dK (gj b.names us))) d=some (.frz od (.dK (gj b.names us))):=Qt;have un:∀ H',SB [] (upd H d (.frz od (.dK (gj b.names us)))) H'->SB [] H (upd H' d (.dK (gj b.names us))):=fun H' s=>s.unlock nQ (fun _ z=>nomatch z) (fun _ _ z=>nomatch z);have dm:∀ p,upd H d (.frz od (.dK (gj b.names us))) p=none->H p=none:=fun p h=>by
  have z:p ≠ d:=fun z=>by rw [z,Qt] at h; cases h
  rwa [upd_ne z] at h
 generalize upd H d _=HL at yC qQ un dm;refine ⟨_,Ja,d,od,_,Ja,qQ,fun D nD=>?_⟩;have dD:d ≠ D:=fun z=>by rw [z,nD] at qQ; cases qQ
 refine lc_it walk_items (fun i H2=>SB [D] HL H2/\∃ ws,H2 D=some (.lst ws)/\KdAll K H2 [D] ws (b.take i)) ⟨SB.new nD _,[],Qt,.nil⟩ (fun i H2 hi h=>h.1.frzs _ _ _ qQ) (fun i x H2 H' hi h y=>?_) (fun H2 h=>?_)
 ·obtain ⟨s2,ws,aW,vM⟩:=h;obtain ⟨T,x1,y1,rfl,SR,rfl,ex,ey⟩:=y;have Sd:i < b.length:=by rw [kl] at hi; exact hi
  obtain ⟨k,ek⟩:∃ k,b[i]?=some k:=⟨_,Kp Sd⟩;obtain ⟨u,eu⟩:∃ u,us[i]?=some u:=⟨_,Kp (by omega)⟩;have Tx:b.names[i]?=some k.n:=by rw [List.getElem?_map,ek]; rfl
  have TB:(gj b.names us)[i]?=some (Sum.inr k.n,u):=by
   show (List.zipWith _ _ _)[i]?=_;rw [List.getElem?_zipWith,Tx,eu]
  have ex:(gj b.names us)[i]?.map (fun kv:Key × V=>kV kv.1)=some x1:=ex;have ey:(gj b.names us)[i]?.map Prod.snd=some y1:=ey;rw [TB] at ex ey;cases ex;cases ey;obtain ⟨k',LX,tt,l,zs,e1,e2,e3,e4⟩:=yC.get eu;rw [ek] at LX;cases LX;have e1:u=.ref tt:=e1;subst e1;have t3:=Jb SR (.tup [kV (Sum.inr k.n),.ref tt]);have sy:=n6 t3;have bW:=t3.keep _ _ aW aL;have yD:=vM.sb t3 dc.nil;have s3:=s2.trans (t3.nil (ps:=[D]));generalize upd H2 T _=H3 at t3 sy bW yD s3;have lD:l ≠ D:=fun z=>by rw [z,nD] at e3; cases e3
  have xc:=s3.keep _ _ e3 (by simpa using lD);refine ⟨T,_,Ja,SqT.of sy,Ja,_,_,Ja,_,_,Ja,tt,_,Ja,s3.aP e2,Ja,_,_,Ja,_,_,Ja,Ja,Ja,Ja,?_⟩;refine ⟨_,Ja,_,Ja,_,Ja,l,zs,Ja,.inl (SqL.of xc),fun L2 Ri=>?_⟩;have t4:=Jb Ri (.lst zs);have Y8:=n6 t4;have jt:=t4.keep _ _ bW aL;have JH:=yD.sb t4 dc.nil;have s4:=s3.trans (t4.nil (ps:=[D]));have LD:L2 ≠ D:=fun z=>by rw [z,bW] at Ri; cases Ri
  generalize upd H3 L2 _=H4 at t4 Y8 jt JH s4;refine ⟨Z3,fun T2 AL=>?_⟩;have t5:=Jb AL (.tup [kV (Sum.inr k.n),.bl k.w,.ref L2]);have Ck:SqT K (upd H4 T2 (.tup [kV (Sum.inr k.n),.bl k.w,.ref L2])) T2 [.str k.n,.bl k.w,.ref L2]:=SqT.of Qt;have xN:=t5.keep _ _ Y8 aL;have eW:=t5.keep _ _ jt aL;have Bb:=JH.sb t5 dc.nil;have s5:=s4.trans (t5.nil (ps:=[D]));generalize upd H4 T2 _=H5 at t5 Ck xN eW Bb s5;have wl:=Bb.length;rw [Kx] at wl;refine ⟨_,eW,by omega,?_⟩;have t6:=SB.set (ps:=[D]) eW (by simp) (.lst (ws++[.ref T2]));refine ⟨s5.trans t6,_,Qt,?_⟩;rw [Yg,ek];exact (Bb.sb t6 dc.self).append (.cons ⟨T2,L2,zs,Ja,t6.aP Ck,t6.keep _ _ xN (by simpa using LD),(e4.sb s5 Ru.ag).sb t6 Ru.ag,by simpa using LD⟩ .nil)
 ·obtain ⟨s2,ws,aW,vM⟩:=h;rw [kl,Yh] at vM;have hd2:=s2.frzs _ _ _ qQ;have hQ:SB [] HL H2:=s2.drop nD;have yD:KdAll K (upd H2 d (.dK (gj b.names us))) [D] ws b:=vM.ID hd2;have bW:upd H2 d (.dK (gj b.names us)) D=some (.lst ws):=by rw [upd_ne (fun z=>dD z.symm)]; exact aW
  have s3:=un _ hQ;have Of:=dm _ nD;refine fQ ⟨hd2,?_⟩;dsimp only;generalize upd H2 d _=H3 at yD bW s3;refine ⟨_,Ja,_,Ja,D,ws,Ja,SqL.of bW,fun p np=>?_⟩;have t4:=Jb np (.lst ws.reverse);have nP:=n6 t4;have jt:=t4.keep _ _ bW aL;have JH:=(yD.more np).sb t4 dc.nil;have np0:H p=none:=s3.kh _ np;generalize upd H3 p _=H4 at t4 nP jt JH;refine ⟨Z2,fun L nL=>?_⟩;have t5:=Jb nL (.lst [.ref D,.ref p]);have xN:=n6 t5;have sZ:=t5.keep _ _ nP aL;have eW:=t5.keep _ _ jt aL;have Bb:=JH.sb t5 dc.nil;generalize upd H4 L _=H5 at t5 xN sZ eW Bb;have s5:=(s3.trans t4).trans t5;cases t with
  | true=>exact ⟨_,Ja,.inr ⟨_,Ja,L,_,_,_,Ja,Ja,SqL.of xN,atI_nat (j:=1) rfl,q p _ H5 s5 np0 sZ ((Bb.less (bad':=[p]) (by simp)).rev)⟩⟩
  | false=>exact ⟨_,Ja,.inr ⟨_,Ja,L,_,_,_,Ja,Ja,SqL.of xN,atI_nat (j:=0) rfl,q D _ H5 s5 Of eW (Bb.less (bad':=[D]) (by simp))⟩⟩
theorem zis:FnScope [aw,"kind"] [aw,"kind"] (defScope Fs):=fS
theorem zgf (F:Fun K "__init__" "NoKind.__init__" Fs f fd):FnOk P w K mg base CX0 1 f fd [aw,"kind"] (Pd K C):=by
 refine F.ok zis (fun vs H Q E h=>?_) (fun _ A _ _ H vs Q E hr h=>?_)
 ·obtain ⟨a,y,rfl,_⟩:=h
  rfl
 obtain ⟨a,y,rfl,T,no,ha,q⟩:=h;refine ⟨_,Qe (ps_ost (pv 0) (pv 1)),?_⟩;exact ⟨_,Ja,_,Ja,a,C,Ja,T,no,.inl ⟨ha,q⟩⟩
theorem zgw:FnScope [aw,"kind"] [aw,"kind"] (defScope Fh):=fS
theorem zgi (F:Fun K "__init__" "Endless.__init__" Fh f fd):FnOk P w K mg base CX0 1 f fd [aw,"kind"] (Pd K C):=by
 refine F.ok zgw (fun vs H Q E h=>?_) (fun _ A _ _ H vs Q E hr h=>?_)
 ·obtain ⟨a,y,rfl,_⟩:=h
  rfl
 obtain ⟨a,y,rfl,T,no,ha,q⟩:=h;refine ⟨_,Qe (ps_ost (pv 0) (pv 1)),?_⟩;exact ⟨_,Ja,_,Ja,a,C,Ja,T,no,.inl ⟨ha,q⟩⟩
abbrev EM:List Str:=[aw,"kinds",aI,"spreading","rows"]
theorem jJ:FnScope EM [aw,"kinds"] (defScope rE):=fS
theorem zlm {j4 ae:Addr} (B:BI mg) (fH:Own K mg "NoBook" j4) (cJ:ClsF K ae ["spread_by_name","rows_by_name"]) (MR:Got P w K mg base fZ [cF] (87) (Xf K)) (F:Fun K "__init__" "Book.__init__" rE f fd):FnOk P w K mg base (L2.CX P w) (88) f fd [aw,"kinds"] (NA K ae j4):=by
 refine F.okX jJ (fun vs H Q E h=>?_) (fun _ A _ _ H vs Q E hr h=>?_)
 ·obtain ⟨x,dx,l,xs,ts,rfl,_⟩:=h
  rfl
 obtain ⟨x,dx,l,xs,ts,rfl,hx,yF,hs,ha,hf,hl,q,qE⟩:=h;have bq:=bh hr;refine ⟨_,Qc (Qr (Qp (Qo (bc MR (Hm hr) rfl (Qa (pv 1) Qb)))) (Qe (ps_raise rfl (takes_of rfl rfl rfl rfl) (pmk_own PySem.F.excBase_ValueError fH.q fH.gC fH.k (raises_own fH.s fH.t) rfl))) pss_nil)
  (Qc (ps_fld (pv 0) (pe_dc (own:=[(aI,2),("spreading",3),("rows",4)]) (g:=(gTup K 3 (gCons (gName 2) (gCons (gName 3) (gCons (gName 4) gNil))))) (tt:=tYes) (tk:=(tVar 2)) (tv:=(tVar 3)) rfl jJ.nd (pi_list (pv 1)) (blkOk_by (N:=EM) (sc:=defScope rE) (by decide +kernel)) (fun _ _ _ _ _=>(pg_tup rfl (Qi (pg_name (i:=2) jJ.nd rfl (.inl rfl)) (Qi (pg_name (i:=3) jJ.nd rfl (.inl rfl)) (Qi (pg_name (i:=4) jJ.nd rfl (.inl rfl)) pgs_nil))))) (fun _ _ _ _ _=>pts_nil) (fun _ _ _ _ _=>(pv 2)) (fun _ _ _ _ _=>(pv 3))) rfl)
  (Qe (ps_fld (pv 0) (pe_dc (own:=[(aI,2),("spreading",3),("rows",4)]) (g:=(gTup K 3 (gCons (gName 2) (gCons (gName 3) (gCons (gName 4) gNil))))) (tt:=tYes) (tk:=(tVar 2)) (tv:=(tCB (fun xs H Q=>∃ p ys,xs=[.ref p]/\((SqL K H p ys/\∀ l,H l=none->Q (.ref l) (upd H l (.tup ys)))\/(SqT K H p ys/\Q (.ref p) H))) (tCons (tVar 4) tNil))) rfl jJ.nd (pi_list (pv 1)) (blkOk_by (N:=EM) (sc:=defScope rE) (by decide +kernel)) (fun _ _ _ _ _=>(pg_tup rfl (Qi (pg_name (i:=2) jJ.nd rfl (.inl rfl)) (Qi (pg_name (i:=3) jJ.nd rfl (.inl rfl)) (Qi (pg_name (i:=4) jJ.nd rfl (.inl rfl)) pgs_nil))))) (fun _ _ _ _ _=>pts_nil) (fun _ _ _ _ _=>(pv 2)) (fun _ _ _ _ _=>(pe_callTy call_tuple_of rfl B.tuple boot_tuple (Qa (pv 4) Qb)))) rfl))),?_⟩
 refine ⟨_,Ja,l,xs,ts,Ja,SqL.of hs,ha,hf,hl,fun b H1 s1 hb=>?_⟩;refine ⟨_,Ja,?_⟩;cases b with
 | false=>exact iteT (qE (fun z=>nomatch (hb.mpr z)) H1 s1)
 | true =>
 refine iteF ?_;obtain ⟨bk,et,ok⟩:=hb.mp rfl;subst et;have q2:=q bk rfl ok;have sr:=(ha.sb s1).kd;have uB:=s1.keep _ _ hs aL;have yB:=s1.keep _ _ hx aL;have pC:=sr.length;have iV:=sizeLine_eq;have b8:=ok.len;have hlx:l ≠ x:=ne_of hs hx (fun z=>nomatch z);refine ⟨_,Ja,l,Ja,⟨_,SqL.of uB⟩,fun D hD=>?_⟩;refine Vw (walk_list (xs:=xs)) hD (by omega) (fun i aQ _=>aQ=Bk.lT (bk.take i)) rfl (fun H2 s2=>s2.fu aL (SqL.of uB)) (fun _ _ _ _ _ h=>h) (fun Pv i y H2 H' aQ hi s2 yy hR qh fin _=>?_) (fun aQ H2 s2 aW hR _=>?_)
 ·obtain ⟨rfl,ey⟩:=yy;obtain ⟨k,ek,t,r,zs,rfl,h1,h2,h3,_⟩:=sr.get ey;refine ⟨t,_,Ja,s2.aP h1,Ja,_,_,Ja,_,_,Ja,_,_,Ja,Ja,Ja,?_⟩;refine ⟨_,Ja,_,Ja,fin (Sum.inr k.n) _ _ SB.refl ?_⟩;rw [hR,FJ,Yg,ek,Option.toList_some,Bk.lT,Bk.lT,Yj]
  ·rfl
  ·intro p hp e;obtain ⟨j,hj,rfl⟩:=Qx hp
   injection e with e
   exact Bk.mh ok.nd ek j hj e
 ·rw [pC,Yh] at hR;subst hR;have oy:=s2.keep _ _ yB aL;have qh:=s2.keep _ _ uB aL;have xM:=sr.sb s2 dc.nil;refine ⟨_,Ja,x,_,dx,_,Ja,oy,cJ.c,cJ.no _ (by simp),by decide,?_⟩;have e1:putF (Str.ofString "spread_by_name") (V.ref D) []=[(Str.ofString "spread_by_name",V.ref D)]:=rfl;rw [e1];have t3:SB [x] H2 (upd H2 x (.ins ae dx [(Str.ofString "spread_by_name",V.ref D)])):=SB.setG oy (by simp) (fun _ z=>nomatch z) (fun _ _ z=>nomatch z) _;have nl3:dc H2 [] [x]:=fun p hp=>.inr fun xs z=>by rw [Qy hp,oy] at z; cases z
  have YY:=xM.sb t3 nl3;have xc:=t3.keep _ _ qh (by simpa using hlx);have Jg:upd H2 x (.ins ae dx [(Str.ofString "spread_by_name",V.ref D)]) x=some (.ins ae dx [(Str.ofString "spread_by_name",V.ref D)]):=Qt;have bW:=t3.keep _ _ aW (by simpa using ne_of aW oy (fun z=>nomatch z));have g7:=((s1.trans s2).nil (ps:=[x])).trans t3;generalize upd H2 x _=H3 at t3 YY xc Jg bW g7;refine ⟨_,Ja,l,Ja,⟨_,SqL.of xc⟩,fun D2 uF=>?_⟩;refine Vw (walk_list (xs:=xs)) uF (by omega) (fun i aQ H4=>∃ us,aQ=Bk.i6 (bk.take i) us/\Bears K H4 Kd.wK us (bk.take i)) ⟨[],Ja,.nil⟩ (fun H4 s4=>s4.fu aL (SqL.of xc)) (fun i us H4 H5 s5 ⟨tD,e,hb⟩=>⟨tD,e,hb.sb s5 Kd.dJ⟩) (fun Pv i y H4 H' aQ hi s4 yy hR Oy fin _=>?_) (fun aQ H4 s4 jt hR _=>?_)
  ·obtain ⟨rfl,ey⟩:=yy;obtain ⟨us,rfl,hb⟩:=hR;obtain ⟨k,ek,t,r,zs,rfl,h1,h2,h3,_⟩:=YY.get ey;refine ⟨t,_,Ja,s4.aP h1,Ja,_,_,Ja,_,_,Ja,_,_,Ja,Ja,Ja,?_⟩;refine ⟨_,Ja,_,Ja,r,zs,Ja,.inl ⟨SqL.of (s4.keep _ _ h2 aL),fun p hp=>?_⟩⟩;have t5:=Jb hp (.tup zs);refine fin (Sum.inr k.n) _ _ t5 ⟨us++[.ref p],?_,?_⟩
   ·rw [FJ,Yg,ek,Option.toList_some,Bk.i6,Bk.i6,List.zipWith_append hb.length.symm]
    ·rfl
    ·intro p hp e;obtain ⟨j,hj,e2⟩:=WT hp;rw [e2] at e
     injection e with e
     exact Bk.mh ok.nd ek j hj e
   ·rw [Yg,ek,Option.toList_some];exact Bears.append (hb.sb t5 Kd.dJ) (.cons (.tup (.inl (.inl Qt)) (Bears.dp ((h3.sb s4 Ru.ag).sb t5 Ru.ag))) .nil)
  ·rw [pC,Yh] at hR;obtain ⟨us,rfl,hb⟩:=hR;have z5:=s4.keep _ _ Jg aL;refine ⟨_,Ja,x,_,dx,_,Ja,z5,cJ.c,cJ.no _ (by simp),by simp,?_⟩;have t5:SB [x] H4 (upd H4 x (.ins ae dx (TR D D2))):=SB.setG z5 (by simp) (fun _ z=>nomatch z) (fun _ _ z=>nomatch z) _;refine q2 _ ((g7.trans s4.nil).trans t5) ⟨x,dx,D,D2,us,Ja,Qt,?_,?_,hb.sb t5 Kd.dJ⟩
   ·exact t5.keep _ _ (s4.keep _ _ bW aL) (by simpa using ne_of (s4.keep _ _ bW aL) z5 (fun z=>nomatch z))
   ·exact t5.keep _ _ jt (by simpa using ne_of jt z5 (fun z=>nomatch z))
abbrev Uq:List Str:=[aw]
theorem zlt:FnScope Uq [aw] (defScope wI):=fS
theorem zlj {ae:Addr} (B:BI mg) (cJ:ClsF K ae ["spread_by_name","rows_by_name"]) (F:Fun K eU "Book.names" wI f fd):FnOk P w K mg base CX0 (1) f fd [aw] (Iv K ae):=by
 refine F.ok zlt (fun vs H Q E h=>?_) (fun _ A _ _ H vs Q E hr h=>?_)
 ·obtain ⟨v,b,rfl,_⟩:=h
  rfl
 obtain ⟨v,b,rfl,hb,hl,q⟩:=h;refine ⟨_,Qe (Qj (pe_callTy (call_listD rfl) rfl B.list boot_list (Qa (pe_fld (pv 0) rfl) Qb))),?_⟩;obtain ⟨a,dx,d1,d2,us,rfl,h1,h2,h3,h4⟩:=hb;refine ⟨_,Ja,a,_,dx,_,_,Ja,h1,cJ.c,cJ.no _ (by simp),Ja,d1,_,Ja,.inl h2,fun p hp=>?_⟩;exact q p _ (SB.new hp _) hp (by rw [Qt,Bk.lT,List.map_map,List.map_map]; rfl)
abbrev Um:List Str:=[aw,aI]
theorem zkj:FnScope Um [aw,aI] (defScope wG):=fS
theorem zko {ae ai:Addr} (B:BI mg) (cJ:ClsF K ae ["spread_by_name","rows_by_name"]) (sR:GotX P w K mg base cW [af,aI] (3) (NQ K ae ai)) (F:Fun K "spreads" "Book.spreads" wG f fd):FnOk P w K mg base (L2.CX P w) (4) f fd [aw,aI] (IB K ae ai):=by
 refine F.okX zkj (fun vs H Q E h=>?_) (fun _ A _ _ H vs Q E hr h=>?_)
 ·obtain ⟨v,b,n,rfl,_⟩:=h
  rfl
 obtain ⟨v,b,n,rfl,hb,hl,qk,qE⟩:=h;refine ⟨_,Qc (Kf (jb sR (Hm hr) rfl (takes_of rfl rfl rfl rfl) (Qa (pv 0) (Qa (pv 1) Qb))))
  (Qe (Qj (pe_dget (u1 hr) (pe_fld (pv 0) rfl) (pv 1) (fun _ _=>rfl)))),?_⟩
 refine ⟨_,Ja,_,Ja,_,b,n,Ja,hb,hl,fun k e H1 s1=>?_,qE⟩;obtain ⟨a,dx,d1,d2,us,rfl,h1,h2,h3,h4⟩:=hb.dI s1;refine ⟨_,Ja,a,_,dx,_,_,Ja,h1,cJ.c,cJ.no _ (by simp),Ja,_,Ja,d1,V.bl k.w,Ja,i5 h2 (by rw [Bk.xX,e]; rfl),qk k e H1 s1⟩
abbrev Uo:List Str:=[aw,aI]
theorem zkk:FnScope Uo [aw,aI] (defScope wH):=fS
theorem zlc {ae ai:Addr} (B:BI mg) (cJ:ClsF K ae ["spread_by_name","rows_by_name"]) (sR:GotX P w K mg base cW [af,aI] (3) (NQ K ae ai)) (F:Fun K "rules" "Book.rules" wH f fd):FnOk P w K mg base (L2.CX P w) (4) f fd [aw,aI] (NI K ae ai):=by
 refine F.okX zkk (fun vs H Q E h=>?_) (fun _ A _ _ H vs Q E hr h=>?_)
 ·obtain ⟨v,b,n,rfl,_⟩:=h
  rfl
 obtain ⟨v,b,n,rfl,hb,hl,RJ,qk,qE⟩:=h;refine ⟨_,Qc (Kf (jb sR (Hm hr) rfl (takes_of rfl rfl rfl rfl) (Qa (pv 0) (Qa (pv 1) Qb))))
  (Qe (Qj (pe_callTy call_list_of rfl B.list boot_list (Qa (pe_dget (u1 hr) (pe_fld (pv 0) rfl) (pv 1) (fun _ _=>rfl)) Qb)))),?_⟩
 refine ⟨_,Ja,_,Ja,_,b,n,Ja,hb,hl,fun k e H1 s1=>?_,qE⟩;obtain ⟨a,dx,d1,d2,us,rfl,h1,h2,h3,h4⟩:=hb.dI s1;obtain ⟨u,hv,hu⟩:=Bk.om n h4 e;refine ⟨_,Ja,a,_,dx,_,_,Ja,h1,cJ.c,cJ.no _ (by simp),Ja,_,Ja,d2,u,Ja,i5 h3 hv,?_⟩;cases hu with
 | tup ht hd=>exact ⟨_,_,Ja,.inr ht,fun l hl=>qk k e l _ _ (s1.trans (SB.new hl _)) (s1.kh l hl) Qt ((Bears.of hd).sb (Jb hl _) Ru.ag)⟩
abbrev Ul:List Str:=[aw,af,aa,cq,ao]
theorem ZZ:FnScope Ul [aw,af,aa,cq,ao] (defScope wF):=fS
theorem zl1 {aH ae ai bI:Addr} (B:BI mg) (ar:ClsF K aH ["books","standing","hand"]) (MP:GotX P w K mg base d7 [af,aa,cq,ao] (74) (Pp K ae ai bI)) (F:Fun K "__init__" "Duel.__init__" wF f fd):FnOk P w K mg base (L2.CX P w) (75) f fd [aw,af,aa,cq,ao] (PM K aH ae):=by
 refine F.okX ZZ (fun vs H Q E h=>?_) (fun _ A _ _ H vs Q E hr h=>?_)
 ·obtain ⟨x,dx,v1,w1,v2,w2,b1,b2,g1,g2,AI,AH,rfl,_⟩:=h
  rfl
 obtain ⟨x,dx,v1,w1,v2,w2,b1,b2,g1,g2,AI,AH,rfl,hx,h1,h2,hd,q⟩:=h;refine ⟨_,Qc (Kf (jb MP (Hm hr) rfl (takes_of rfl rfl rfl rfl) (Qa (pv 1) (Qa (pv 2) (Qa (pv 3) (Qa (pv 4) Qb))))))
  (Qc (ps_fld (pv 0) (Ka (Qa (pv 1) (Qa (pv 3) Qb))) rfl)
  (Qc (ps_fld (pv 0) (Ka (Qa (pv 2) (Qa (pv 4) Qb))) rfl)
  (Qe (ps_fld (pv 0) Qg rfl)))),?_⟩
 refine ⟨_,Ja,_,Ja,_,Ja,_,Ja,?_⟩;refine fz ?_;show Pp K ae _ _ _ _ _ _;refine ⟨v1,w1,v2,w2,b1,b2,g1,g2,AI,AH,.fine,Ja,h1,h2,hd,fun H1 s1=>?_⟩;have yB:=s1.keep _ _ hx aL;refine ⟨_,Ja,_,Ja,Z2,fun T nT=>?_⟩;have t2:=Jb nT (.tup [v1,v2]);have oy:=t2.keep _ _ yB aL;have s2:=s1.trans t2;have tf:=qX (K:=K) t2;generalize upd H1 T _=H2 at t2 oy s2 tf;refine ⟨_,Ja,x,_,dx,_,Ja,oy,ar.c,ar.no _ (by simp),by decide,?_⟩;have e1:putF (Str.ofString "books") (.ref T) []=[(Str.ofString "books",.ref T)]:=rfl;rw [e1];have t3:SB [x] H2 (upd H2 x (.ins aH dx [(Str.ofString "books",.ref T)])):=SB.setG oy (by simp) (fun _ z=>nomatch z) (fun _ _ z=>nomatch z) _;have Jg:upd H2 x (.ins aH dx [(Str.ofString "books",.ref T)]) x=some (.ins aH dx [(Str.ofString "books",.ref T)]):=Qt;have s3:=(s2.nil (ps:=[x])).trans t3;have sy:=t3.aP tf;generalize upd H2 x _=H3 at t3 Jg s3 sy;refine ⟨_,Ja,_,Ja,Z2,fun U nU=>?_⟩;have t4:=Jb nU (.tup [w1,w2]);have z5:=t4.keep _ _ Jg aL;have s4:=s3.trans (t4.nil (ps:=[x]));have Y2:=qX (K:=K) t4;generalize upd H3 U _=H4 at t4 z5 s4 Y2;refine ⟨_,Ja,x,_,dx,_,Ja,z5,ar.c,ar.no _ (by simp),by simp,?_⟩;have e2:putF (Str.ofString "standing") (.ref U) [(Str.ofString "books",.ref T)]=[(Str.ofString "books",.ref T),(Str.ofString "standing",.ref U)]:=rfl;rw [e2];have t5:SB [x] H4 (upd H4 x (.ins aH dx [(Str.ofString "books",.ref T),(Str.ofString "standing",.ref U)])):=SB.setG z5 (by simp) (fun _ z=>nomatch z) (fun _ _ z=>nomatch z) _;have Rw:upd H4 x (.ins aH dx [(Str.ofString "books",.ref T),(Str.ofString "standing",.ref U)]) x=some (.ins aH dx [(Str.ofString "books",.ref T),(Str.ofString "standing",.ref U)]):=Qt;have s5:=s4.trans t5;have Ck:=t5.aP (t4.aP sy);have Y1:=t5.aP Y2;generalize upd H4 x _=H5 at t5 Rw s5 Ck Y1;refine ⟨_,Ja,x,_,dx,_,Ja,Rw,ar.c,ar.no _ (by simp),by simp,?_⟩;have e3:putF (Str.ofString "hand") (V.int 0) [(Str.ofString "books",.ref T),(Str.ofString "standing",.ref U)]=[(Str.ofString "books",.ref T),(Str.ofString "standing",.ref U),(Str.ofString "hand",.int 0)]:=rfl;rw [e3];have t6:SB [x] H5 (upd H5 x (.ins aH dx [(Str.ofString "books",.ref T),(Str.ofString "standing",.ref U),(Str.ofString "hand",.int 0)])):=SB.setG Rw (by simp) (fun _ z=>nomatch z) (fun _ _ z=>nomatch z) _;exact q _ (s5.trans t6) ⟨dx,T,U,Qt,t6.aP Ck,t6.aP Y1⟩
abbrev Ug:List Str:=[aw]
theorem zl8:FnScope Ug [aw] (defScope wy):=fS
theorem ZS {aH:Addr} (B:BI mg) (ar:ClsF K aH ["books","standing","hand"]) (F:Fun K CV "Duel.turn" wy f fd):FnOk P w K mg base CX0 (1) f fd [aw] (PU K aH):=by
 refine F.ok zl8 (fun vs H Q E h=>?_) (fun _ A _ _ H vs Q E hr h=>?_)
 ·obtain ⟨a,bs,ws,h,rfl,_⟩:=h
  rfl
 obtain ⟨a,bs,ws,h,rfl,⟨dx,T,U,hi,hT,hU⟩,q⟩:=h;refine ⟨_,Qe (Qj (pe_fld (pv 0) rfl)),?_⟩;exact ⟨_,Ja,a,_,dx,_,_,Ja,hi,ar.c,ar.no _ (by simp),Ja,q⟩
abbrev Ui:List Str:=[aw]
theorem zkh:FnScope Ui [aw] (defScope wB):=fS
theorem zlf {aH:Addr} (B:BI mg) (ar:ClsF K aH ["books","standing","hand"]) (F:Fun K m7 "Duel.groves" wB f fd):FnOk P w K mg base CX0 (1) f fd [aw] (QA K aH):=by
 refine F.ok zkh (fun vs H Q E h=>?_) (fun _ A _ _ H vs Q E hr h=>?_)
 ·obtain ⟨a,bs,ws,h,rfl,_⟩:=h
  rfl
 obtain ⟨a,bs,ws,h,rfl,⟨dx,T,U,hi,hT,hU⟩,q⟩:=h;refine ⟨_,Qe (Qj (pe_fld (pv 0) rfl)),?_⟩;exact ⟨_,Ja,a,_,dx,_,_,Ja,hi,ar.c,ar.no _ (by simp),Ja,q U hU⟩
abbrev Uj:List Str:=[aw,a7,aR,aF,"left"]
theorem BU:FnScope Uj [aw,a7,aR,aF] (defScope wC):=fS
theorem zkb {aH ae dP fI dH dG:Addr} (B:BI mg) (ar:ClsF K aH ["books","standing","hand"]) (MI:GotX P w K mg base ng [af,aa,a7,aR,aF] (74) (Ij K ae dP fI dH dG)) (F:Fun K CZ "Duel.fall" wC f fd):FnOk P w K mg base CX0 (76) f fd [aw,a7,aR,aF] (PY K aH ae):=by
 refine F.ok BU (fun vs H Q E h=>?_) (fun _ A _ _ H vs Q E hr h=>?_)
 ·obtain ⟨a,pa,bv,cv,w0,w1,v,u,h,b,g,m,fa,k,kd,r,rfl,_⟩:=h
  rfl
 obtain ⟨a,pa,bv,cv,w0,w1,v,u,h,b,g,m,fa,k,kd,r,rfl,⟨dx,T1,U,hi,hT,hU⟩,hs,⟨hv,ok⟩,⟨hg,st⟩,lE,F,inb,q⟩:=h;refine ⟨_,Qc (ps_set (i:=4) BU.nd rfl (.inl rfl) (Qm Ql (Ii MI (Hm hr) rfl (Qa (Qm Ql (pe_fld (pv 0) rfl) (pe_fld (pv 0) rfl) (fun _ _=>rfl)) (Qa (Qm Ql (pe_fld (pv 0) rfl) (pe_fld (pv 0) rfl) (fun _ _=>rfl)) (Qa (pv 1) (Qa (pv 2) (Qa (pv 3) Qb)))))) Qg (fun _ _=>rfl)))
  (Qc (ps_fld (pv 0) (pe_ifExp (pt_cmpR op_eq (pe_fld (pv 0) rfl) Qg (nomark _)) (Ka (Qa (pv 4) (Qa (Qm Ql (pe_fld (pv 0) rfl) Qg (fun _ _=>rfl)) Qb))) (Ka (Qa (Qm Ql (pe_fld (pv 0) rfl) Qg (fun _ _=>rfl)) (Qa (pv 4) Qb)))) rfl)
  (Qe (ps_fld (pv 0) (pe_op op_sub Qg (pe_fld (pv 0) rfl)) rfl))),?_⟩
 have oC:∃ x,atI [bv,cv] ((h:Nat):Int)=some x/\fJ K ae H x b:=by
  rcases hs with ⟨rfl,rfl,rfl⟩ | ⟨rfl,rfl,rfl⟩
  ·exact ⟨bv,atI_nat (j:=0) rfl,hv⟩
  ·exact ⟨cv,atI_nat (j:=1) rfl,hv⟩
 obtain ⟨bx,ebx,hbx⟩:=oC;refine ⟨_,Ja,a,_,dx,_,_,Ja,hi,ar.c,ar.no _ (by simp),Ja,_,Ja,a,_,dx,_,_,Ja,hi,ar.c,ar.no _ (by simp),Ja,T1,_,_,_,Ja,Ja,hT,ebx,?_⟩;refine ⟨_,Ja,a,_,dx,_,_,Ja,hi,ar.c,ar.no _ (by simp),Ja,_,Ja,a,_,dx,_,_,Ja,hi,ar.c,ar.no _ (by simp),Ja,U,_,_,_,Ja,Ja,hU,hs.own,_,Ja,_,Ja,_,Ja,?_⟩;refine fz ?_;show Ij _ _ _ _ _ _ [bx,v,.ref pa,.int (fa.2.1:Nat),.int fa.2.2] _ _ _;refine zez (f:=fa) hbx ok hg st lE F (fun _ t H1 s1 nt Gb=>?_) (fun uD=>absurd inb uD);obtain ⟨t',u',a',et,ht,Yz,Sy⟩:=zda Gb;cases et;refine ⟨t,_,_,_,Ja,Ja,ht,atI_nat (j:=0) rfl,?_⟩;refine fQ ?_;have Ab:=s1.keep _ _ hi aL;have Eo:=s1.aP hU;refine ⟨_,Ja,a,_,dx,_,_,Ja,Ab,ar.c,ar.no _ (by simp),Ja,?_⟩;refine ⟨rfl,_,Ja,?_⟩;rcases hs with ⟨rfl,rfl,rfl⟩ | ⟨rfl,rfl,rfl⟩
 ·rw [Ya (by rfl)];refine iteT ?_;refine ⟨_,Ja,_,Ja,a,_,dx,_,_,Ja,Ab,ar.c,ar.no _ (by simp),Ja,U,_,_,_,Ja,Ja,Eo,atI_nat (j:=1) rfl,Z2,fun M nM=>?_⟩;have t2:=Jb nM (.tup [u',u]);have Cn:=qX (K:=K) t2;have yE:=t2.keep _ _ Ab aL;have s2:=s1.trans t2;have A6:=GA.sb Yz t2;generalize upd H1 M _=H2 at t2 Cn yE s2 A6;refine ⟨_,Ja,a,_,dx,_,Ja,yE,ar.c,ar.no _ (by simp),by simp,?_⟩;have e1:putF (Str.ofString "standing") (V.ref M) [(Str.ofString "books",V.ref T1),(Str.ofString "standing",V.ref U),(Str.ofString "hand",V.int ((0:Nat):Int))]=[(Str.ofString "books",.ref T1),(Str.ofString "standing",.ref M),(Str.ofString "hand",.int ((0:Nat):Int))]:=rfl;rw [e1];have t3:SB [a] H2 (upd H2 a (.ins aH dx [(Str.ofString "books",.ref T1),(Str.ofString "standing",.ref M),(Str.ofString "hand",.int ((0:Nat):Int))])):=SB.setG yE (by simp) (fun _ z=>nomatch z) (fun _ _ z=>nomatch z) _;have Bc:upd H2 a (.ins aH dx [(Str.ofString "books",.ref T1),(Str.ofString "standing",.ref M),(Str.ofString "hand",.int ((0:Nat):Int))]) a=some (.ins aH dx [(Str.ofString "books",.ref T1),(Str.ofString "standing",.ref M),(Str.ofString "hand",.int ((0:Nat):Int))]):=Qt;have s3:=(s2.nil (ps:=[a])).trans t3;have z6:=A6.sb t3;have KC:=t3.aP Cn;generalize upd H2 a _=H3 at t3 Bc s3 z6 KC;refine ⟨_,Ja,a,_,dx,_,_,Ja,Bc,ar.c,ar.no _ (by simp),Ja,_,_,Ja,Ja,_,Ja,a,_,dx,_,Ja,Bc,ar.c,ar.no _ (by simp),by simp,?_⟩;have t4:SB [a] H3 (upd H3 a (.ins aH dx [(Str.ofString "books",.ref T1),(Str.ofString "standing",.ref M),(Str.ofString "hand",.int ((1:Nat):Int))])):=SB.setG Bc (by simp) (fun _ z=>nomatch z) (fun _ _ z=>nomatch z) _;exact q u' u' u _ (s3.trans t4) (.inl ⟨rfl,Ja,Ja⟩) (z6.sb t4) ⟨dx,T1,M,Qt,(s1.nil.trans (t2.nil.trans (t3.trans t4)) (ps:=[a])).aP hT,t4.aP KC⟩
 ·rw [Qz (by decide)];refine iteF ?_;refine ⟨_,Ja,a,_,dx,_,_,Ja,Ab,ar.c,ar.no _ (by simp),Ja,U,_,_,_,Ja,Ja,Eo,atI_nat (j:=0) rfl,_,Ja,Z2,fun M nM=>?_⟩;have t2:=Jb nM (.tup [u,u']);have Cn:=qX (K:=K) t2;have yE:=t2.keep _ _ Ab aL;have s2:=s1.trans t2;have A6:=GA.sb Yz t2;generalize upd H1 M _=H2 at t2 Cn yE s2 A6;refine ⟨_,Ja,a,_,dx,_,Ja,yE,ar.c,ar.no _ (by simp),by simp,?_⟩;have e1:putF (Str.ofString "standing") (V.ref M) [(Str.ofString "books",V.ref T1),(Str.ofString "standing",V.ref U),(Str.ofString "hand",V.int ((1:Nat):Int))]=[(Str.ofString "books",.ref T1),(Str.ofString "standing",.ref M),(Str.ofString "hand",.int ((1:Nat):Int))]:=rfl;rw [e1];have t3:SB [a] H2 (upd H2 a (.ins aH dx [(Str.ofString "books",.ref T1),(Str.ofString "standing",.ref M),(Str.ofString "hand",.int ((1:Nat):Int))])):=SB.setG yE (by simp) (fun _ z=>nomatch z) (fun _ _ z=>nomatch z) _;have Bc:upd H2 a (.ins aH dx [(Str.ofString "books",.ref T1),(Str.ofString "standing",.ref M),(Str.ofString "hand",.int ((1:Nat):Int))]) a=some (.ins aH dx [(Str.ofString "books",.ref T1),(Str.ofString "standing",.ref M),(Str.ofString "hand",.int ((1:Nat):Int))]):=Qt;have s3:=(s2.nil (ps:=[a])).trans t3;have z6:=A6.sb t3;have KC:=t3.aP Cn;generalize upd H2 a _=H3 at t3 Bc s3 z6 KC;refine ⟨_,Ja,a,_,dx,_,_,Ja,Bc,ar.c,ar.no _ (by simp),Ja,_,_,Ja,Ja,_,Ja,a,_,dx,_,Ja,Bc,ar.c,ar.no _ (by simp),by simp,?_⟩;have t4:SB [a] H3 (upd H3 a (.ins aH dx [(Str.ofString "books",.ref T1),(Str.ofString "standing",.ref M),(Str.ofString "hand",.int ((0:Nat):Int))])):=SB.setG Bc (by simp) (fun _ z=>nomatch z) (fun _ _ z=>nomatch z) _;exact q u' u u' _ (s3.trans t4) (.inr ⟨rfl,Ja,Ja⟩) (z6.sb t4) ⟨dx,T1,M,Qt,(s1.nil.trans (t2.nil.trans (t3.trans t4)) (ps:=[a])).aP hT,t4.aP KC⟩
abbrev Uk:List Str:=[aw,bK]
theorem BV:FnScope Uk [aw] (defScope wD):=fS
theorem zju {aH ae:Addr} {c:Str->Addr} (B:BI mg) (T:zbf K mg c eC eN eK) (ar:ClsF K aH ["books","standing","hand"]) (Mr:GotX P w K mg base CY [af,aa] (73) (VH K ae (c "NoKind") (c "Endless"))) (MJ:GotX P w K mg base ka [af,aa,aO] (94) (P6 K ae (c "NoKind") (c "Endless") (c "NoReach"))) (F:Fun K ni "Duel.answer" wD f fd):FnOk P w K mg base CX0 (96) f fd [aw] (Pr K aH ae):=by
 refine F.ok BV (fun vs H Q E h=>?_) (fun _ A _ _ H vs Q E hr h=>?_)
 ·obtain ⟨a,bv,w0,w1,v,u,h,b,cc,τ,g,o,rfl,_⟩:=h
  rfl
 obtain ⟨a,bv,w0,w1,v,u,h,b,cc,τ,g,o,rfl,⟨dx,T1,U,hi,hT,hU⟩,hs,⟨hv,BB⟩,⟨hg,fg,gl⟩,⟨ho,fo,ol⟩,q1,q2⟩:=h;have bq:=bh hr;refine ⟨_,Qc (ps_set (i:=1) BV.nd rfl (.inl rfl) (Ii Mr (Hm hr) rfl (Qa (Qm Ql (pe_fld (pv 0) rfl) (pe_op op_sub Qg (pe_fld (pv 0) rfl)) (fun _ _=>rfl)) (Qa (Qm Ql (pe_fld (pv 0) rfl) (pe_op op_sub Qg (pe_fld (pv 0) rfl)) (fun _ _=>rfl)) Qb))))
  (Qe (ps_try_only (tb:=fun W=>(tRet (tCallS (P6 K ae (c "NoKind") (c "Endless") (c "NoReach")) (WE W) (tCons (tOp (rIxT K) (tFld K (tVar 0) "books") (tFld K (tVar 0) "hand")) (tCons (tOp (rIxT K) (tFld K (tVar 0) "standing") (tFld K (tVar 0) "hand")) (tCons (tVar 1) tNil)))))) (ts:=fun a cls d=>(tRet (tC .non))) (Wout:=fun _ _ _ _=>False) rfl rfl ⟨rfl,by decide,Or.inl (T.glo "NoReach" (mi 8))⟩ takes0
   (fun W pn xe tk _=>by exact (Qe (Qj (jb MJ (Hm hr) rfl tk (Qa (Qm Ql (pe_fld (pv 0) rfl) (pe_fld (pv 0) rfl) (fun _ _=>rfl)) (Qa (Qm Ql (pe_fld (pv 0) rfl) (pe_fld (pv 0) rfl) (fun _ _=>rfl)) (Qa (pv 1) Qb)))))))
   (fun a oe cls d pn hz hf=>by exact (Qe (Qj pe_non))))),?_⟩
 have oC:Sel h bv bv bv bv:=by
  rcases hs with ⟨e,_⟩ | ⟨e,_⟩
  ·exact .inl ⟨e,Ja,Ja⟩
  ·exact .inr ⟨e,Ja,Ja⟩
 obtain ⟨gE,gR,⟨gO,gP,gF,gB⟩,gL⟩:=BB.Oa fg gl;obtain ⟨oE,oR,⟨oO,oP,oF,oB⟩,oL⟩:=BB.Oa fo ol;obtain ⟨eg,pg⟩:=BB.rk fg;obtain ⟨eo,po⟩:=BB.rk fo;refine ⟨_,Ja,a,_,dx,_,_,Ja,hi,ar.c,ar.no _ (by simp),Ja,_,Ja,a,_,dx,_,_,Ja,hi,ar.c,ar.no _ (by simp),Ja,_,_,Ja,Ja,T1,_,_,_,Ja,Ja,hT,oC.vw,?_⟩;refine ⟨_,Ja,a,_,dx,_,_,Ja,hi,ar.c,ar.no _ (by simp),Ja,_,Ja,a,_,dx,_,_,Ja,hi,ar.c,ar.no _ (by simp),Ja,_,_,Ja,Ja,U,_,_,_,Ja,Ja,hU,hs.vw,?_⟩;refine fz ?_;refine ⟨_,_,cc,bT cc,o,Ja,hv,BB.ok,oR.ow,ho,oR.deep,oR.parts,fo.nm,oE,oR.fit,fun x H1 s1 hx=>?_⟩;refine fQ ?_;have Ab:=s1.keep _ _ hi aL;have Ep:=s1.aP hT;have Eo:=s1.aP hU;refine ⟨_,Ja,a,_,dx,_,_,Ja,Ab,ar.c,ar.no _ (by simp),Ja,_,Ja,a,_,dx,_,_,Ja,Ab,ar.c,ar.no _ (by simp),Ja,T1,_,_,_,Ja,Ja,Ep,oC.own,?_⟩;refine ⟨_,Ja,a,_,dx,_,_,Ja,Ab,ar.c,ar.no _ (by simp),Ja,_,Ja,a,_,dx,_,_,Ja,Ab,ar.c,ar.no _ (by simp),Ja,U,_,_,_,Ja,Ja,Eo,hs.own,_,Ja,?_⟩;refine fz ?_;have lt_iff:(Gr.rk cc (bT cc) o).lt (Gr.rk cc (bT cc) g)=decide (Gr.bN τ o < Gr.bN τ g):=by rw [eo,eg,Lad.qv po pg]
 have dg:=fg.deep;have hBg:(102:Int)*(g.deep:Nat)<=102:=by
  have:((g.deep:Nat):Int)<=1:=by omega
  omega
 have big:(204:Int)<=2 ^ 1990:=by decide +kernel
 have tp:(Gr.rk cc (bT cc) o).parts<=1:=by rw [eo]; exact Lad.oJ _
 have td:(Gr.rk cc (bT cc) o).deep<=1:=by rw [eo]; exact Lad.yT _
 refine ⟨_,_,_,cc,g,cc.names,Ja,hv.dI s1,BB.ok,hg.sb s1,by omega,by omega,fg.nm,by have:=BB.len; omega,fun n hn=>?_,fun _=>⟨fun n hn=>?_,fun _=>⟨bT cc,Gr.rk cc (bT cc) o,102,101,102,1,gR.ow,gL,⟨gR.deep,gR.parts,gO⟩,⟨gR.fit,gF,gB⟩,⟨hx,by omega,fun _=>⟨by rw [eo]; exact Lad.iF (by omega),by decide,by decide,by omega,by omega⟩⟩,fun d4 p H2 pl i r n s2 hp hr hn=>?_,fun d4 H2 s2=>?_⟩⟩⟩
 ·obtain ⟨y,hy,e⟩:=Qx hn.mem;exact absurd (e ▸ fg.nm y hy) hn.out
 ·exact (hn.uh gE).elim
 ·rw [lt_iff,decide_eq_true_eq] at d4;obtain ⟨pa,gA,fB⟩:=hp;obtain ⟨n0,k,kd,e1,e2,e3,hle⟩:=hr;have F:FlAt cc g (pl,i,n) k kd r:=⟨e1,e2,e3,n0,by
   have:(204:Int) < 10 ^ 59:=by decide
   show n < 10 ^ 59;omega⟩
  refine q1 d4 p pa (pl,i,n) k kd r H2 (s1.trans s2) gA fB F ?_;have hL:=hle n (Kw _);obtain ⟨fg2,_⟩:=BB.less fg F;obtain ⟨e4,p4⟩:=BB.rk fg2;rw [<- show fl cc g (pl,i,n)=Gr.stk cc n (Gr.hO r n) pl g from F.eq,e4,eo] at hL;have hL:(Lad.fin (Gr.bN τ (fl cc g (pl,i,n)).1)).lt (Lad.fin (Gr.bN τ o))=false:=hL;rw [Lad.qv p4 po,decide_eq_false_iff_not] at hL;omega
 ·rw [lt_iff,decide_eq_false_iff_not] at d4;refine ⟨true,(T.exo "NoReach" (.head _) "NoReach" (by decide +kernel)).trans (by rw [Ya rfl]),fun _ y hy=>?_,fun z=>nomatch z⟩;exact q2 d4 _ (s1.trans s2)
abbrev Uh:List Str:=[aw]
theorem Z6:FnScope Uh [aw] (defScope wz):=fS
theorem zk7 {aH:Addr} (B:BI mg) (ar:ClsF K aH ["books","standing","hand"]) (F:Fun K fT "Duel.outlasted" wz f fd):FnOk P w K mg base CX0 (1) f fd [aw] (Px K aH):=by
 refine F.ok Z6 (fun vs H Q E h=>?_) (fun _ A _ _ H vs Q E hr h=>?_)
 ·obtain ⟨a,bs,w0,w1,v,u,h,g,rfl,_⟩:=h
  rfl
 obtain ⟨a,bs,w0,w1,v,u,h,g,rfl,⟨dx,T,U,hi,hT,hU⟩,hs,hg,q1,q2⟩:=h;refine ⟨_,Qc (Qr (pt_truth (Qm Ql (pe_fld (pv 0) rfl) (pe_fld (pv 0) rfl) (fun _ _=>rfl)) (by intro _; rfl)) (Qe (Qj pe_non)) pss_nil)
  (Qe (Qj (pe_fld (pv 0) rfl))),?_⟩
 refine ⟨_,Ja,a,_,dx,_,_,Ja,hi,ar.c,ar.no _ (by simp),Ja,_,Ja,a,_,dx,_,_,Ja,hi,ar.c,ar.no _ (by simp),Ja,U,_,_,_,Ja,Ja,hU,hs.own,?_⟩;obtain ⟨ga,xs,rfl,hV,xJ⟩:=pz hg;have gl:=xJ.length;by_cases z:g=.nil
 ·refine ⟨false,.inr (.inl ⟨xs,hV,?_⟩),iteF (BK ?_)⟩
  ·have e:xs.length=0:=by rw [gl,z]; rfl
   rw [List.length_eq_zero_iff.mp e]; rfl
  exact ⟨_,Ja,a,_,dx,_,_,Ja,hi,ar.c,ar.no _ (by simp),Ja,q1 z⟩
 ·refine ⟨true,.inr (.inl ⟨xs,hV,?_⟩),iteT (q2 z)⟩;have e:xs.length ≠ 0:=by
   rw [gl];cases g with
   | nil=>exact absurd rfl z
   | cons k i m r=>exact Nat.succ_ne_zero _
  cases xs with
  | nil=>exact absurd rfl e
  | cons x r=>rfl
abbrev zm0:List Str:=[ah,"_law_way"]
theorem x6:FnScope zm0 [ah] (defScope GY):=fS
theorem zhd (B:BI mg) (df:Got P w K mg base bV [ah,aJ] (1) (Ai)) (F:Fun K gi gi GY f fd):FnOk P w K mg base CX0 (2) f fd [ah] (VN):=by
 refine F.ok x6 (fun vs H Q E h=>?_) (fun _ A _ _ H vs Q E hr h=>?_)
 ·obtain ⟨p,cl,rfl,_⟩:=h
  rfl
 obtain ⟨p,cl,rfl,hp,q⟩:=h;have bq:=bh hr;refine ⟨_,Qc (ps_set (i:=1) x6.nd rfl (.inl rfl) (bc df (Hm hr) rfl (Qa (pv 0) (Qa Qg Qb))))
  (Qc (Qr (pt_cmpR op_lt (pv 1) Qg (nomark _)) (Qe (Qj (pv 1))) pss_nil)
  (Qe (Qj (bc df (Hm hr) rfl (Qa (pv 0) (Qa (Qm ix_list (pe_lst (Qa Qg (Qa (pe_op op_pow Qg Qg) Qb))) (pe_op op_sub (pv 1) Qg) (fun _ _=>rfl)) Qb)))))),?_⟩
 refine ⟨_,Ja,p,cl,4,Ja,hp,by decide,by decide +kernel,fun r H1 r0 r4 s1 gA=>?_⟩;refine fQ ?_;refine ⟨_,Ja,_,_,Ja,Ja,_,Ja,?_⟩;by_cases w2:r < 2
 ·rw [Ya w2];exact iteT ⟨_,Ja,q r H1 r0 (by omega) s1 gA⟩
 rw [Qz w2];refine iteF (BK ?_);refine ⟨_,Ja,_,_,Ja,Ja,⟨by decide,by decide,by decide⟩,Z2,fun M nM=>?_⟩;have t2:=Jb nM (.lst [.int 7,.int (10 ^ (9:Int).toNat)]);have Cn:=n6 t2;have fB:=gA.sb t2;generalize upd H1 M _=H2 at t2 Cn fB;have s2:=s1.trans t2.nil;obtain ⟨m,em,m1,m9⟩:∃ m:Int,atI [V.int 7,V.int (10 ^ (9:Int).toNat)] (r-2)=some (.int m)/\1<=m/\m<=10 ^ 9:=by
  rcases (by omega:r=2\/r=3) with e | e
  ·rw [e]; exact ⟨7,Ja,by decide,by decide⟩
  ·rw [e]; exact ⟨10 ^ 9,Ja,by decide,by decide⟩
 have b9:(10:Int) ^ 9 < 2 ^ 2000:=by decide +kernel
 refine ⟨_,Ja,_,_,Ja,Ja,M,_,_,_,Ja,Ja,SqL.of Cn,em,?_⟩;refine fz ?_;exact ⟨p,cl,m,Ja,fB,m1,by omega,fun x H3 x0 xm s3 mY=>q x H3 x0 (by omega) (s2.trans s3) mY⟩
abbrev zji:List Str:=[aV,gN,"_law_at","_law_kind","_law_inner"]
theorem l3:FnScope zji [aV,gN] (defScope GS):=fS
theorem zfs (B:BI mg) (F:Fun K dw dw GS f fd):FnOk P w K mg base CX0 (1) f fd [aV,gN] (Xe K):=by
 refine F.ok l3 (fun vs H Q E h=>?_) (fun _ A _ _ H vs Q E hr h=>?_)
 ·obtain ⟨v,pa,g,pl,k,rfl,_⟩:=h
  rfl
 obtain ⟨v,pa,g,pl,k,rfl,hg,lE,hb,q⟩:=h;have bq:=bh hr;refine ⟨_,Qc (ps_for PassesOwn.never rfl (pi_tup (pv 1)) (pg_name (i:=2) l3.nd rfl (.inl rfl))
   (Qc (ps_asg (Qm Ql (Qm Ql (pv 0) (pv 2) (fun _ _=>rfl)) Qg (fun _ _=>rfl)) (pg_tup rfl (Qi (pg_name (i:=3) l3.nd rfl (.inl rfl)) (Qi (pg_name (i:=4) l3.nd rfl (.inl rfl)) pgs_nil))))
  (Qe (ps_set (i:=0) l3.nd rfl (.inl rfl) (pv 4)))))
  (Qe (Qj (pv 3))),?_⟩
 have pne:=Gr.qz hb;refine ⟨_,Ja,pa,Ja,⟨_,lE⟩,?_⟩;refine for_it (walk_tup (xs:=pl.map fun n:Nat=>V.int (n:Int))) (fun i σ H2=>H2=H/\∃ (v2:V) (o2 o3 o4:Option V),σ=[some v2,some (.ref pa),o2,o3,o4]/\(i < pl.length->∃ h,GA K H v2 h/\Gr.bareAt h (pl.drop i)=some k)/\(i=pl.length->o3=some (.str k)))
  ⟨rfl,v,none,none,none,rfl,fun _=>⟨g,hg,hb⟩,fun e=>absurd (List.length_eq_zero_iff.mp e.symm) pne⟩ (fun i σ H2 hi h2=>by rw [h2.1]; exact lE) (fun i x σ H2 H' hi h2 y=>?_) (fun σ H2 h2=>?_)
 ·obtain ⟨rfl,v2,o2,o3,o4,rfl,d4,_⟩:=h2;obtain ⟨rfl,ey⟩:=y;rw [Ye] at hi;rw [List.getElem?_map] at ey;obtain ⟨j,ej,rfl⟩:=Kr ey;obtain ⟨h,hh,bY⟩:=d4 hi;obtain ⟨ga,zs,rfl,hzs,YV⟩:=pz hh;have zl:=YV.length;have hdr:pl.drop i=j::pl.drop (i+1):=by
   have e2:=Kq ej;rw [List.drop_eq_getElem_cons hi,e2.2]
  rw [hdr] at bY;obtain ⟨p,ep,JT,JC⟩:∃ p,h.ps[j]?=some p/\(i+1=pl.length->p.1=(k,.nil))/\(i+1 < pl.length->Gr.bareAt p.1.2 (pl.drop (i+1))=some k):=by
   by_cases hr:pl.drop (i+1)=[]
   ·rw [hr] at bY;obtain ⟨p,e1,e2⟩:=Gr.cO bY;exact ⟨p,e1,fun _=>e2,fun z=>by
     have:=congrArg List.length hr;rw [List.length_drop] at this;simp at this; omega⟩
   ·obtain ⟨p,e1,e2⟩:=Gr.bB hr bY;exact ⟨p,e1,fun z=>absurd (by rw [z,List.drop_length]) hr,fun _=>e2⟩
  have jl:=(Kq ep).1;have ez:zs[j]?=some zs[j]:=Kp (by omega);obtain ⟨p2,yZ,eJ⟩:=YV.get ez;rw [ep] at yZ;cases yZ;obtain ⟨ad,td,ux,eu,fA,lC,hV,A7⟩:=nj eJ;rw [eu] at ez;refine OW ?_;refine ⟨_,Ja,_,Ja,ga,_,_,_,Ja,Ja,hzs,atI_nat ez,ad,_,_,_,Ja,Ja,fA,atI_nat (j:=0) rfl,?_⟩;refine ⟨td,_,Ja,lC,Ja,_,_,Ja,_,_,Ja,Ja,?_⟩;refine ⟨_,Ja,fQ ?_⟩;exact ⟨rfl,_,_,_,_,Ja,fun z=>⟨p.1.2,hV,JC z⟩,fun z=>by rw [JT z]⟩
 ·obtain ⟨rfl,v2,o2,o3,o4,rfl,_,hd⟩:=h2;rw [hd (List.length_map ..)];exact ⟨_,Ja,q⟩
abbrev zjq:List Str:=[ah,aV,gN,"_law_at"]
theorem l4:FnScope zjq [ah,aV] (defScope Hc):=fS
theorem zih (B:BI mg) (df:Got P w K mg base bV [ah,aJ] (1) (Ai)) (F:Fun K bP bP Hc f fd):FnOk P w K mg base CX0 (2) f fd [ah,aV] (Wt K):=by
 refine F.ok l4 (fun vs H Q E h=>?_) (fun _ A _ _ H vs Q E hr h=>?_)
 ·obtain ⟨p,cl,v,g,C,rfl,_⟩:=h
  rfl
 obtain ⟨p,cl,v,g,C,rfl,hp,hg,go,gd,gp,gn,q⟩:=h;have bq:=bh hr;refine ⟨_,Qc (ps_set (i:=2) l4.nd rfl (.inl rfl) (Ka Qb))
  (Qc (ps_while PassesOwn.never (pt_cmpR (O5 (tE hr)) (pv 1) (Ka Qb) (nomark _)) (Qc (ps_set (i:=3) l4.nd rfl (.inl rfl) (bc df (Hm hr) rfl (Qa (pv 0) (Qa (Qs call_len_seq rfl B.len PySem.boot_len (Qa (pv 1) Qb)) Qb))))
  (Qc (ps_set (i:=2) l4.nd rfl (.inl rfl) (pe_op Aj (pv 2) (Ka (Qa (pv 3) Qb))))
  (Qe (ps_set (i:=1) l4.nd rfl (.inl rfl) (Qm Ql (Qm Ql (Qm Ql (pv 1) (pv 3) (fun _ _=>rfl)) Qg (fun _ _=>rfl)) Qg (fun _ _=>rfl)))))))
  (Qe (Qj (pv 2)))),?_⟩
 refine ⟨Z0,fun e0 Rg=>?_⟩;have t1:=Jb Rg (.tup []);have Bh:=qX (K:=K) t1;have gA:=hp.sb t1;have OC:=hg.sb t1;generalize upd H e0 _=H1 at t1 Bh gA OC;refine fQ ?_
 let Pv:Nat->L2.St->Hp->Prop:=fun d σ H2=>SB [p] H1 H2/\cm H2 p cl/\∃ (u:V) (pa:Addr) (pl:Pl) (h:Gr) (o3:Option V),σ=[some (.ref p),some u,some (.ref pa),o3]/\GA K H2 u h/\h.deep=d/\h.parts<=1000/\d+pl.length<=60/\(∃ C,h.Ok C)/\SqT K H2 pa (pl.map fun n:Nat=>V.int (n:Int))/\((h=.nil/\∃ k,Gr.bareAt g pl=some k)\/(h ≠ .nil/\∀ BX k,Gr.bareAt h BX=some k->Gr.bareAt g (pl++BX)=some k))
 refine ⟨Pv,⟨g.deep,SB.refl,gA,v,e0,[],g,none,Ja,OC,Ja,gp,by show g.deep+0<=60; omega,⟨C,go⟩,Bh,.inr ⟨gn,fun BX k e=>e⟩⟩,fun d σ H2 h=>?_⟩;obtain ⟨s2,fB,u,pa,pl,h,o3,rfl,A6,hd2,z7,dl,⟨C2,hC⟩,Jw,hor⟩:=h;refine ⟨_,Ja,Z0,fun z nz=>?_⟩;have t3:=Jb nz (.tup []);refine ⟨_,_,A6.sb t3,HR (SqT.of Qt),Gr.wd hC (by omega),Gr.xS,_,Ja,?_⟩;rw [Gr.bw];have mY:=fB.sb t3;have z6:=A6.sb t3;have D0:=t3.aP Jw;have s3:=s2.trans t3.nil;generalize upd H2 z _=H3 at t3 mY z6 D0 s3;clear s2 fB A6 Jw t3;rcases hor with ⟨hn,k,hk⟩ | ⟨hn,hk⟩
 ·rw [Ya hn];exact iteF ⟨_,Ja,q pa pl k H3 ((t1.nil (ps:=[p])).trans s3) mY D0 hk⟩
 rw [Qz hn];refine iteT ?_;refine ⟨fun σ' H'=>∃ m',m' < d/\Pv m' σ' H',fun σ' H' z=>z,?_⟩;have B2:(1000:Int) < 2 ^ 2000:=by decide +kernel
 obtain ⟨ga,xs,rfl,hV,xJ⟩:=pz z6;have xl:=xJ.length;have hlp:=h.aN;have l0:0 < h.ps.length:=by
  cases h with
  | nil=>exact absurd rfl hn
  | cons k i m r=>exact Nat.succ_pos _
 refine ⟨_,Ja,_,Ja,ga,xs,Ja,.inr hV,p,cl,_,Ja,mY,by omega,by omega,fun r H4 r0 rm s4 nP=>?_⟩;obtain ⟨j,rfl⟩:∃ j:Nat,r=(j:Int):=⟨r.toNat,by omega⟩;refine fQ ?_;have Si:=s4.aP hV;have RS:=s4.aP D0;have Sf:=xJ.sb s4 Gr.aj;refine ⟨_,Ja,_,Ja,Z1,fun M nM=>?_⟩;have t5:=Jb nM (.tup [.int (j:Nat)]);have Y7:=qX (K:=K) t5;have JN:=t5.aP Si;have Jv:=t5.aP RS;have JM:=Sf.sb t5 Gr.aj;have sZ:=nP.sb t5;have s5:=(s3.trans s4).trans t5.nil;generalize upd H4 M _=H5 at t5 Y7 JN Jv JM sZ s5;refine ⟨pa,M,_,_,Ja,Ja,Jv,Y7,by rw [Ye]; show pl.length+1<=10000000; omega,fun pb H6 s6 sX=>?_⟩;refine fQ ?_;have ez:xs[j]?=some xs[j]:=Kp (by omega);have Sh:=s6.aP JN;obtain ⟨x,ex,hxd⟩:=(JM.sb s6 Gr.aj).get ez;obtain ⟨ad,td,ux,eu,fA,lC,OB,A7⟩:=nj hxd;rw [eu] at ez;have xm:=Qu ex;have x2:=(Gr.bE hC xm).2.1;have xd:x.1.2.deep < h.deep:=Gr.aA _ _ xm;have xp:x.1.2.parts < h.parts:=Gr.bA _ _ xm;refine ⟨_,Ja,_,Ja,ga,_,_,_,Ja,Ja,Sh,atI_nat ez,ad,_,_,_,Ja,Ja,fA,atI_nat (j:=0) rfl,td,_,_,_,Ja,Ja,lC,atI_nat (j:=1) rfl,?_⟩;refine fQ ?_;have eb:(pl.map fun n:Nat=>V.int (n:Int))++[V.int (j:Nat)]=(pl++[j]).map fun n:Nat=>V.int (n:Int):=by simp
 rw [eb] at sX;refine ⟨x.1.2.deep,by omega,s5.trans s6.nil,sZ.sb s6,ux,pb,pl++[j],x.1.2,_,Ja,OB,Ja,by omega,by rw [Yf,Yi]; omega,⟨C2,x2⟩,sX,?_⟩;by_cases xn:x.1.2=.nil
 ·exact .inl ⟨xn,x.1.1,hk [j] x.1.1 (by unfold Gr.bareAt; rw [ex]; simp [xn])⟩
 ·refine .inr ⟨xn,fun BX k e=>?_⟩;rw [List.append_assoc];refine hk _ k ?_;show Gr.bareAt h (j::BX)=some k;cases BX with
  | nil=>simp [Gr.bareAt] at e
  | cons y r =>
   unfold Gr.bareAt;rw [ex];simp only [reduceCtorEq,if_false];exact e
abbrev zku:List Str:=[ah,cY,lx,aJ,jB,"_law_turn","_law_kind"]
theorem pW:FnScope zku [ah,cY,lx,aJ] (defScope Gy):=fS
theorem ziv (B:BI mg) (df:Got P w K mg base bV [ah,aJ] (1) (Ai)) (M0:Got P w K mg base cU [jB] (1) (VW K)) (F:Fun K fP fP Gy f fd):FnOk P w K mg base CX0 (3) f fd [ah,cY,lx,aJ] (Nu K):=by
 refine F.ok pW (fun vs H Q E h=>?_) (fun _ A _ _ H vs Q E hr h=>?_)
 ·obtain ⟨p,nl,cl,ks,m,c,rfl,_⟩:=h
  rfl
 obtain ⟨p,nl,cl,ks,m,c,rfl,hp,⟨hn,np,k8,Jd⟩,m4,c1,c3,q⟩:=h;have bq:=bh hr;refine ⟨_,Qc (ps_set (i:=4) pW.nd rfl (.inl rfl) (pe_lst Qb))
  (Qc (ps_for PassesOwn.never rfl (pi_range1 rfl B.range (Qa (bc df (Hm hr) rfl (Qa (pv 0) (Qa (pe_op Ko (pv 2) Qg) Qb))) Qb)) (pg_name (i:=5) pW.nd rfl (.inl rfl))
   (Qe (Qr (pt_cmpR (op_neD (Dm hr)) (pv 1) (pe_lst Qb) (nomark _)) (Qc (ps_set (i:=6) pW.nd rfl (.inl rfl) (Qm ix_list (pv 1) (bc df (Hm hr) rfl (Qa (pv 0) (Qa (Qs call_len_seq rfl B.len PySem.boot_len (Qa (pv 1) Qb)) Qb))) (fun _ _=>rfl)))
  (Qe (Kf (Kn Ki PySem.F.slot_list_append PySem.F.type_list_append mt_append (pv 4) (Qa (Ka (Qa (Ka (Qa (pv 6) (Qa (Ka Qb) Qb))) (Qa (pe_op Ko Qg (bc df (Hm hr) rfl (Qa (pv 0) (Qa (pv 3) Qb)))) Qb))) Qb))))) pss_nil)))
  (Qe (Qj (bc M0 (Hm hr) rfl (Qa (pv 4) Qb))))),?_⟩
 have iV:=sizeLine_eq;have B2:(1000:Int) < 2 ^ 2000:=by decide +kernel
 refine ⟨Z0,fun D nD=>?_⟩;have t1:=Jb nD (.lst []);have sA:=n6 t1;have gA:=hp.sb t1;have pD:=hp.ne nD;have cD:=hp.nc nD;have z9:=t1.keep _ _ hn aL;have nDl:nl ≠ D:=ne_of_none hn nD;generalize upd H D _=H1 at t1 sA gA z9;refine fQ ?_;refine ⟨_,Ja,_,Ja,_,_,Ja,Ja,?_⟩;refine fz ?_;refine ⟨p,cl,_,Ja,gA,by omega,by omega,fun r H2 r0 rm s2 fB=>?_⟩;obtain ⟨n,rfl⟩:∃ n:Nat,r=(n:Int):=⟨r.toNat,by omega⟩;refine ⟨_,Ja,by omega,by omega,?_⟩;refine for_it (walk_range (lo:=0) (n:=((n:Nat):Int).toNat)) (fun i σ G=>SB [p,D] H1 G/\cm G p cl/\∃ (us:List V) (acc:List (Tr × Int)) (o5 o6:Option V),σ=[some (.ref p),some (.ref nl),some (.int (m:Nat)),some (.int c),some (.ref D),o5,o6]/\G D=some (.lst us)/\Bears K G Gr.aG us acc/\acc.length<=i/\Gr.tot acc=acc.length/\∀ x ∈ acc,fm x.1.1/\x.1.2=.nil/\1<=x.2/\x.2<=c/\x.1.1 ∈ ks)
  ⟨s2.mono (by simp),fB,[],[],none,none,rfl,s2.keep _ _ sA (by simpa using fun z:D=p=>pD z.symm),.nil,Nat.zero_le _,rfl,fun x hx=>nomatch hx⟩ (fun _ _ _ _ _=>trivial) (fun i z σ G' G hi h yy=>?_) (fun σ G h=>?_)
 ·obtain ⟨s3,mY,us,acc,o5,o6,rfl,bW,gI,al,at_,good⟩:=h;obtain ⟨rfl,rfl⟩:=yy;have ul:=gI.length;refine OW ?_;refine ⟨_,Ja,Z0,fun e0 Rg=>?_⟩;have t3:=Jb Rg (.lst []);have Ed:SqL K (upd G e0 (.lst [])) e0 []:=SqL.of Qt;have vK:=(s3.trans t3.nil).keep _ _ z9 (by simp [np,nDl]);have nP:=mY.sb t3;have jt:=t3.keep _ _ bW aL;have yL:=gI.sb t3 Gr.aj;have s4:=s3.trans t3.nil;generalize upd G e0 _=G1 at t3 Ed vK nP jt yL s4;refine ⟨.list (ks.map .str),.list [],Dp.lst (SqL.of vK) (Xi _).dp,Dp.lst Ed .nil,z9t Jd,by decide +kernel,_,Ja,?_⟩;rw [zel];by_cases kn:ks=[]
  ·rw [Ya kn];exact iteF ⟨s4,nP,us,acc,_,_,Ja,jt,yL,by omega,at_,good⟩
  rw [Qz kn];have kl:0 < ks.length:=List.length_pos_iff.mpr kn;refine iteT ?_;refine ⟨_,Ja,_,Ja,_,Ja,nl,_,Ja,.inl (SqL.of vK),p,cl,_,Ja,nP,by rw [Ye]; omega,by rw [Ye]; omega,fun r4 H4 r40 X1 s5 sZ=>?_⟩;obtain ⟨u,rfl⟩:∃ u:Nat,r4=(u:Int):=⟨r4.toNat,by omega⟩;rw [Ye] at X1;have eu:ks[u]?=some ks[u]:=Kp (by omega);generalize hkk:ks[u]=kk at eu;have Ys:=Qu eu;have R5:=s5.keep _ _ vK (by simp [np]);refine ⟨nl,_,_,_,Ja,Ja,SqL.of R5,atI_nat (j:=u) (by rw [List.getElem?_map,eu]; rfl),?_⟩;refine fQ ?_;have s6:=s4.trans (s5.mono (qs:=[p,D]) (by simp));have i4:=s5.keep _ _ jt (by simpa using fun z:D=p=>pD z.symm);have El:=yL.sb s5 Gr.aj;clear s5 jt yL nP mY bW gI s3 vK Ed t3;refine ⟨_,Ja,.inl ⟨rfl,_,SqL.of i4⟩,_,Ja,Z0,fun Z nZ=>?_⟩;have t7:=Jb nZ (.tup []);have YZ:GA K (upd H4 Z (.tup [])) (.ref Z) .nil:=HR (SqT.of Qt);have xO:=t7.keep _ _ i4 aL;have z8:=sZ.sb t7;have Ek:=El.sb t7 Gr.aj;have s7:=s6.trans t7.nil;generalize upd H4 Z _=H7 at t7 YZ xO z8 Ek s7;refine ⟨Z2,fun T1 n1=>?_⟩;have rn:=Jb n1 (.tup [.str kk,.ref Z]);have Ep:=qX (K:=K) rn;have Bq:=rn.keep _ _ xO aL;have qf:=z8.sb rn;have J1:=Ek.sb rn Gr.aj;have J7:=YZ.sb rn;have BW:=s7.trans rn.nil;generalize upd H7 T1 _=Gq at rn Ep Bq qf J1 J7 BW;refine ⟨_,Ja,_,Ja,p,cl,c,Ja,qf,c1,by omega,fun mz Mi mz0 mzc x7 qe=>?_⟩;have S6:=x7.keep _ _ Bq (by simpa using fun z:D=p=>pD z.symm);have Bl:=J1.sb x7 Gr.aj;have SO:=J7.sb x7;have SU:=x7.aP Ep;have iW:=BW.trans (x7.mono (qs:=[p,D]) (by simp));refine ⟨_,_,Ja,Ja,Z2,fun T2 n2=>?_⟩;have BS:=Jb n2 (.tup [.ref T1,.int (1+mz)]);have tf:=qX (K:=K) BS;have Km:=BS.aP SU;have Eu:=BS.keep _ _ S6 aL;have Jy:=qe.sb BS;have J0:=Bl.sb BS Gr.aj;have J6:=SO.sb BS;have sV:=iW.trans BS.nil;generalize upd Mi T2 _=H13 at BS tf Km Eu Jy J0 J6 sV;refine ⟨D,us,_,Ja,Ja,Eu,by omega,?_⟩;have tJ:=SB.set (ps:=[D]) Eu (by simp) (.lst (us++[.ref T2]));refine ⟨sV.trans (tJ.mono (by simp)),Jy.keep tJ (by simpa using pD) (by simpa using cD),us++[.ref T2],acc++[((kk,.nil),1+mz)],_,_,Ja,Qt,(J0.sb tJ Gr.aj).append (.cons (Dp.tup (tJ.aP tf) (.cons (Dp.tup (tJ.aP Km) (.cons (.str _) (.cons (J6.sb tJ) .nil))) (.cons (.int _) .nil))) .nil),by rw [Yf,Yi]; omega,?_,fun x hx=>?_⟩
  ·rw [Gr.aU,Yf,Yi,at_]
   rfl
  ·rcases Qw hx with hx | hx
   ·exact good x hx
   ·rw [Qy hx];exact ⟨Jd kk Ys,Ja,by show 1<=1+mz; omega,by show 1+mz<=c; omega,Ys⟩
 ·obtain ⟨s3,mY,us,acc,o5,o6,rfl,bW,gI,al,at_,good⟩:=h;have aln:acc.length<=m:=by omega
  have h0:(0:Int)<=(m:Int)*c:=Int.mul_nonneg (by omega) (by omega);have hle:(acc.length:Int)*c<=(m:Int)*c:=Int.mul_le_mul_of_nonneg_right (by omega) (by omega);have nV:=VM (C:=c) (by omega) (bs:=acc) fun x hx=>(good x hx).2.2.2.1;refine ⟨_,Ja,D,us,acc,Ja,.inl (SqL.of bW),gI,by omega,⟨1,fun x hx=>⟨(good x hx).1,by rw [(good x hx).2.1]; trivial,by rw [(good x hx).2.1]; decide⟩⟩,fun v H' s4 hv=>?_⟩;have g7:SB [p] H G:=((t1.nil.trans s3).mono (qs:=[D,p]) (by simp)).drop nD;refine q v _ H' (g7.trans s4.nil) (mY.sb s4) hv (Gr.As (C:=1) (fun x hx=>⟨(good x hx).1,by rw [(good x hx).2.1]; trivial,(good x hx).2.2.1⟩) (by omega) (by omega)) (Yb (Gr.lP acc) (by omega)) (Gr.n8 fun x hx=>by rw [(good x hx).2.1]; decide) (Gr.tH fun x hx=>⟨(good x hx).2.2.2.2,by rw [(good x hx).2.1]; exact fun y hy=>nomatch hy⟩)
abbrev Vi:List Str:=[a6,ee,aV,"_law_kind","_law_inner",aJ]
theorem lY:FnScope Vi [a6,ee,aV] (defScope E4):=fS
theorem zfz (B:BI mg) (F:Fun K e7 e7 E4 f fd):FnOk P w K mg base CX0 (1) f fd [a6,ee,aV] (Ig K):=by
 refine F.ok lY (fun vs H Q E h=>?_) (fun _ A _ _ H vs Q E hr h=>?_)
 ·obtain ⟨x,v,e,ns,τ,g,rfl,_⟩:=h
  rfl
 obtain ⟨x,v,e,ns,τ,g,rfl,he,tb,nd,hg,gp,gn,q⟩:=h;have bq:=bh hr;refine ⟨_,Qe (Qj (Qs (cr_sum rfl) rfl B.sum boot_sum (Qa (pe_lc (own:=[(aJ,5),("_law_kind",3),("_law_inner",4)]) (g:=(gTup K 2 (gCons (gTup K 2 (gCons (gName 3) (gCons (gName 4) gNil))) (gCons (gName 5) gNil)))) (tt:=tYes) (te:=(tOp (rI CMul fun i j=>.int (i*j)) (tDGet (tVar 1) (tVar 3)) (tVar 5))) rfl lY.nd (pi_tup (pv 2)) (blkOk_by (N:=Vi) (sc:=defScope E4) (by decide +kernel)) (fun _ _ _ _ _=>(pg_tup rfl (Qi (pg_tup rfl (Qi (pg_name (i:=3) lY.nd rfl (.inl rfl)) (Qi (pg_name (i:=4) lY.nd rfl (.inl rfl)) pgs_nil))) (Qi (pg_name (i:=5) lY.nd rfl (.inl rfl)) pgs_nil)))) (fun _ _ _ _ _=>pts_nil) (fun _ _ _ _ _=>(pe_op op_mul (pe_dget (u1 hr) (pv 1) (pv 3) (fun _ _=>rfl)) (pv 5)))) Qb))),?_⟩;obtain ⟨ga,xs,rfl,hV,xJ⟩:=pz hg;have xl:=xJ.length;have hlp:=g.aN;refine ⟨_,Ja,ga,Ja,⟨xs,hV⟩,fun L nL=>?_⟩;have eL:e ≠ L:=fun z=>by rw [kP,z,nL] at he; cases he
 refine lc_it (walk_tup (xs:=xs)) (fun i H2=>SB [L] H H2/\H2 L=some (.lst (((g.ps.take i).map fun p=>τ p.1.1*p.2).map V.int))) ⟨SB.new nL _,Qt⟩ (fun i H2 hi h2=>(h2.1.drop nL).aP hV) (fun i y H2 H' hi h2 hy=>?_) (fun H2 h2=>?_)
 ·obtain ⟨s2,Es⟩:=h2;obtain ⟨rfl,ex⟩:=hy;obtain ⟨p,ep,eJ⟩:=xJ.get ex;obtain ⟨ad,td,ux,eu,fA,lC,OB,A7⟩:=nj eJ;subst eu;have hQ:=s2.drop nL;have hn:=(Gr.aE.mp gn p (Qu ep)).1;have hw:kP H' e ns τ:=s2.keep _ _ he (by simpa using eL);obtain ⟨tb0,tb1⟩:=tb _ hn;have il:i < g.ps.length:=(Kq ep).1;refine ⟨ad,_,Ja,hQ.aP fA,Ja,_,_,Ja,td,_,Ja,hQ.aP lC,Ja,_,_,Ja,_,_,Ja,Ja,_,_,Ja,Ja,Ja,?_⟩;refine ⟨_,Ja,_,Ja,e,_,Ja,hw.val nd hn,_,Ja,_,_,Ja,Ja,.inl ⟨by omega,by omega⟩,_,Es,xE (by rw [Ye,Ye,Kx]; omega),?_⟩;refine ⟨s2.trans (SB.set (ps:=[L]) Es (by simp) _),?_⟩;rw [Qt,Yg,ep,Option.toList_some,Yj,Yj]
  rfl
 ·obtain ⟨s2,Es⟩:=h2;rw [xl,Yh] at Es;exact ⟨L,_,Ja,SqL.of Es,q _ (s2.drop nL)⟩
abbrev Vl:List Str:=[ah,cY,a6,"_law_k","_law_name","_law_rules","_law_turn"]
theorem jj:FnScope Vl [ah] (defScope Fn):=fS
theorem zhv (B:BI mg) (MX:Got P w K mg base fh [ah,aJ] (2) (WO K)) (df:Got P w K mg base bV [ah,aJ] (1) (Ai)) (v7:Got P w K mg base fP [ah,cY,lx,aJ] (3) (Nu K)) (F:Fun K cb cb Fn f fd):FnOk P w K mg base CX0 (4) f fd [ah] (Wo K):=by
 refine F.ok jj (fun vs H Q E h=>?_) (fun _ A _ _ H vs Q E hr h=>?_)
 ·obtain ⟨p,cl,rfl,_⟩:=h
  rfl
 obtain ⟨p,cl,rfl,hp,q⟩:=h;have bq:=bh hr;refine ⟨_,Qc (ps_set (i:=1) jj.nd rfl (.inr rfl) (bc MX (Hm hr) rfl (Qa (pv 0) (Qa (pe_op Ko Qg (bc df (Hm hr) rfl (Qa (pv 0) (Qa Qg Qb)))) Qb))))
  (Qc (ps_set (i:=2) jj.nd rfl (.inl rfl) pe_dnewK)
  (Qc (ps_for PassesOwn.never rfl (pi_enum rfl B.enumerate (Qa (pv 1) Qb)) (pg_tup rfl (Qi (pg_name (i:=3) jj.nd rfl (.inr rfl)) (Qi (pg_name (i:=4) jj.nd rfl (.inl rfl)) pgs_nil)))
   (Qc (ps_setLc (i:=5) (own:=[("_law_turn",6)]) (g:=(gName 6)) (tt:=tYes) (te:=(tTup (tCons (tCall (Nu K) [] E0 (tCons (tVar 0) (tCons (tSl (rSlL K) (tVar 1) tNoPart (tPart (tVar 3))) (tCons (tC (.int 3)) (tCons (tC (.int 2)) tNil))))) (tCons (tTup tNil) tNil)))) rfl jj.nd rfl rfl (sw_true rfl rfl rfl (by decide +kernel)) (pi_range1 rfl B.range (Qa (bc df (Hm hr) rfl (Qa (pv 0) (Qa Qg Qb))) Qb)) (blkOk_by (N:=Vl) (sc:=defScope Fn) (by decide +kernel)) (fun _ _ _ _ _=>(pg_name (i:=6) jj.nd rfl (.inl rfl))) (fun _ _ _ _ _=>pts_nil) (fun _ _ _ _ _=>(Ka (Qa (bc v7 (Hm hr) rfl (Qa (pv 0) (Qa (pe_slice sl_list (pv 1) po_none (po_some (pv 3))) (Qa Qg (Qa Qg Qb))))) (Qa (Ka Qb) Qb)))))
  (Qe (ps_dput (u1 hr) (pv 2) (pv 4) (Ka (Qa pe_bl (Qa (pv 5) Qb))) rfl))))
  (Qe (Qj (pv 2))))),?_⟩
 have iV:=sizeLine_eq;refine ⟨_,Ja,_,Ja,p,cl,_,Ja,hp,by decide,by decide +kernel,fun r1 H1 Q6 r1m s1 gA=>?_⟩;obtain ⟨mn,rfl⟩:∃ u:Nat,r1=(u:Int):=⟨r1.toNat,by omega⟩;have em:(1:Int)+(mn:Int)=((1+mn:Nat):Int):=by omega
 refine ⟨_,_,Ja,Ja,p,cl,1+mn,(by show [V.ref p,V.int ((1:Int)+(mn:Int))]=_; rw [em]),gA,by omega,by omega,fun nl ks H2 s2 fB nnl uF kl knd Jd=>?_⟩;refine fQ ?_;have Oe:nl ≠ p:=fun z=>gA.ne nnl z.symm;intro D nD;have t3:=Jb nD (.dK []);have bW:upd H2 D (.dK []) D=some (.dK (gj (Bk.names []) [])):=Qt;have vK:=t3.keep _ _ uF aL;have mY:=fB.sb t3;have pD:=fB.ne nD;have cD:=fB.nc nD;have Yl:nl ≠ D:=ne_of_none uF nD;have g7:SB [p] H (upd H2 D (.dK [])):=(s1.trans s2).trans t3.nil;have Of:H D=none:=(s1.trans s2).kh _ nD;generalize upd H2 D _=H3 at t3 bW vK mY g7;refine fQ ?_;refine ⟨_,Ja,nl,_,Ja,SqL.of vK,?_⟩;refine for_it (walk_enum (K:=K) (a:=nl) (xs:=ks.map V.str)) (fun i σ H4=>SB [p,D] H3 H4/\cm H4 p cl/\∃ (us:List V) (b:Bk) (o4 o5 o6 o7:Option V),σ=[some (.ref p),some (.ref nl),some (.ref D),o4,o5,o6,o7]/\H4 D=some (.dK (gj b.names us))/\z0i (EO K H4) us b/\b.names=ks.take i/\(∀ k ∈ b,k.w=false/\k.rs.length<=4/\∀ r ∈ k.rs,(dC r/\r.1.parts+r.2.parts<=3)/\r.2=.nil/\r.1.deep<=1/\r.1.Ok 10)/\∀ (j:Nat) (k:Kd),b[j]?=some k->∀ r ∈ k.rs,∀ x ∈ Ru.within r,x.1.1 ∈ ks.take j)
  ⟨SB.refl,mY,[],[],none,none,none,none,rfl,bW,.nil,by simp,(fun k hk=>nomatch hk),(fun j k h=>by simp at h)⟩ (fun i σ H4 hi h=>h.1.fu (by simp [Oe,Yl]) (SqL.of vK)) (fun i x σ H4 H' hi h y=>?_) (fun σ H4 h=>?_)
 ·obtain ⟨s4,nP,us,b,o4,o5,o6,o7,rfl,jt,fc,bn,good,OS⟩:=h;obtain ⟨T,x1,y1,rfl,hT,rfl,ex,ey⟩:=y;have ex:some (V.int (i:Nat))=some x1:=ex;cases ex;have ey:(ks.map V.str)[i]?=some y1:=ey;rw [List.getElem?_map] at ey;rw [Ye] at hi;obtain ⟨nm,en,rfl⟩:=Kr ey;have R5:=s4.keep _ _ vK (by simp [Oe,Yl]);have t5:=Jb hT (.tup [.int (i:Nat),.str nm]);have Ck:=n6 t5;have sZ:=nP.sb t5;have YJ:=t5.keep _ _ R5 aL;have eW:=t5.keep _ _ jt aL;generalize upd H4 T _=H5 at t5 Ck sZ YJ eW;refine ⟨T,_,Ja,SqT.of Ck,Ja,_,_,Ja,_,_,Ja,Ja,?_⟩;refine ⟨_,Ja,p,cl,4,Ja,sZ,by decide,by decide +kernel,fun r7 H6 r70 r74 s6 sY=>?_⟩;obtain ⟨ct,rfl⟩:∃ u:Nat,r7=(u:Int):=⟨r7.toNat,by omega⟩;have YI:=s6.keep _ _ YJ (by simpa using Oe);have i4:=s6.keep _ _ eW (by simpa using fun z:D=p=>pD z.symm);refine ⟨_,Ja,by omega,by omega,fun R nR=>?_⟩;have pR:=sY.ne nR;have cR:=sY.nc nR;have nlR:nl ≠ R:=ne_of_none YI nR;have DR:D ≠ R:=ne_of_none i4 nR;rw [Int.toNat_natCast];have kt:∀ x ∈ ks.take i,fm x:=fun x hx=>Jd x (List.mem_of_mem_take hx);have ktl:(ks.take i).length<=8:=by rw [Kx]; omega
  refine lc_it (walk_range (lo:=0) (n:=ct)) (fun j Ha=>SB [R,p] H6 Ha/\cm Ha p cl/\∃ (vs:List V) (rs:List Ru),Ha R=some (.lst vs)/\Bears K Ha Ru.enc vs rs/\rs.length<=j/\∀ r ∈ rs,((dC r/\r.1.parts+r.2.parts<=3)/\r.2=.nil/\r.1.deep<=1/\r.1.Ok 10)/\∀ x ∈ Ru.within r,x.1.1 ∈ ks.take i)
   ⟨SB.new nR _,sY.sb (Jb nR _),[],[],Qt,.nil,Yc _,fun r hr=>nomatch hr⟩ (fun _ _ _ _=>trivial) (fun j x Ha H' hj h8 y=>?_) (fun Ha h8=>?_)
  ·obtain ⟨sa,lE,vs,rs,SW,jU,rl,vI⟩:=h8;obtain ⟨rfl,rfl⟩:=y;refine C8 ⟨rfl,?_⟩;have hna:H' nl=some (.lst (ks.map V.str)):=sa.keep _ _ YI (by simp [nlR,Oe]);refine ⟨_,Ja,_,Ja,_,Ja,_,Ja,nl,_,Ja,SqL.of hna,fun S nS=>?_⟩;have rn:=Jb nS (.lst (cutV (ks.map V.str) none (some (i:Int))));have hS:upd H' S (.lst (cutV (ks.map V.str) none (some (i:Int)))) S=some (.lst ((ks.take i).map V.str)):=by rw [Qt,zf5,List.map_take]
   have qf:=lE.sb rn;have Sp:S ≠ p:=fun z=>lE.ne nS z.symm;generalize upd H' S _=Hd at rn hS qf;refine ⟨p,S,cl,ks.take i,3,2,Ja,qf,⟨hS,Sp,ktl,kt⟩,by decide,by decide,by decide,fun v1 g1 He se hpe OC Oc X2 OR Od=>?_⟩;have QM:SB [p] H' He:=rn.nil.trans se;have hRe:=QM.keep _ _ SW (by simpa using fun z:R=p=>pR z.symm);have hbe:=jU.sb QM Ru.ag;refine ⟨Z0,fun Z nZ=>?_⟩;have q7:=Jb nZ (.tup []);have hZ:GA K (upd He Z (.tup [])) (.ref Z) .nil:=HR (SqT.of Qt);have KA:=q7.keep _ _ hRe aL;have qe:=hpe.sb q7;have JP:=GA.sb OC q7;have Bl:=hbe.sb q7 Ru.ag;have x7:=QM.trans q7.nil;generalize upd He Z _=Hf at q7 hZ KA qe JP Bl x7;refine ⟨Z2,fun T2 AL=>?_⟩;have tJ:=Jb AL (.tup [v1,.ref Z]);have Kl:=qX (K:=K) tJ;have Er:=tJ.keep _ _ KA aL;have En:=Bl.sb tJ Ru.ag;have JO:=GA.sb JP tJ;have J5:=hZ.sb tJ;have Jx:=qe.sb tJ;have N9:=x7.trans tJ.nil;generalize upd Hf T2 _=Hh at tJ Kl Er En JO J5 Jx N9;have vl:=En.length;refine ⟨_,Er,by omega,?_⟩;have FW:=SB.set (ps:=[R]) Er (by simp) (.lst (vs++[.ref T2]));refine ⟨sa.trans ((N9.mono (by simp)).trans (FW.mono (by simp))),Jx.keep FW (by simpa using pR) (by simpa using cR),vs++[.ref T2],rs++[(g1,.nil)],Qt,?_,by rw [Yf,Yi]; omega,fun r hr=>?_⟩
   ·exact (En.sb FW Ru.ag).append (.cons (.tup (FW.aP Kl) (.cons (GA.sb JO FW) (.cons (GA.sb J5 FW) .nil))) .nil)
   ·rcases Qw hr with hr | hr
    ·exact vI r hr
    ·rw [Qy hr];refine ⟨⟨⟨⟨Oc.mono (by decide),trivial,by show g1.parts+0<=4; omega⟩,by show g1.parts+0<=3; omega⟩,rfl,OR,Oc.mono (by decide)⟩,fun x hx=>?_⟩;rcases Qw hx with hx | hx
     ·exact Od x hx
     ·exact nomatch hx
  obtain ⟨sa,lE,vs,rs,SW,jU,rl,vI⟩:=h8;have XO:SB [p] H5 Ha:=s6.trans (sa.drop nR);refine fQ ?_;have hDa:=XO.keep _ _ eW (by simpa using fun z:D=p=>pD z.symm);refine ⟨_,Ja,Z2,fun T3 Rh=>?_⟩;have Du:=Jb Rh (.tup [.bl false,.ref R]);have Kj:=qX (K:=K) Du;have OM:=Du.keep _ _ hDa aL;have Y5:=Du.keep _ _ SW aL;have jT:=jU.sb Du Ru.ag;have sX:=lE.sb Du;have QO:SB [p] H4 (upd Ha T3 (.tup [.bl false,.ref R])):=((t5.nil (ps:=[p])).trans XO).trans Du.nil;generalize upd Ha T3 _=Hb at Du Kj OM Y5 jT sX QO;have ul:=fc.length;have bl:b.names.length=i:=by rw [bn,Kx]; omega
  have bl2:b.length=i:=by rw [<- bl]; exact (List.length_map ..).symm
  have fresh:nm ∉ b.names:=fun z=>by
   rw [bn] at z;obtain ⟨j,hj,ej⟩:=List.getElem_of_mem z;rw [List.getElem_take] at ej;rw [Kx] at hj;obtain ⟨yE,e2⟩:=List.getElem_of_getElem? en;exact List.pairwise_iff_getElem.mp knd j i (by omega) yE (by omega) (ej.trans e2.symm)
  have zl:(gj b.names us).length < sizeLine:=by
   show (List.zipWith _ _ _).length < _;rw [List.length_zipWith]; omega
  refine ⟨_,Ja,_,Ja,D,_,Ja,DPut.k (k:=Sum.inr nm) OM zl,?_⟩;have FV:=SB.jI (ps:=[D]) OM (by simp) (.dK (putK (gj b.names us) (Sum.inr nm) (.ref T3)));have hDc:upd Hb D (.dK (putK (gj b.names us) (Sum.inr nm) (.ref T3))) D=some (.dK (gj (Bk.names (b++[⟨nm,false,rs⟩])) (us++[.ref T3]))):=by
   rw [Qt,zes (by rw [ul,bl2,bl]) fresh];show _=some (HO.dK (gj (List.map _ (b++[_])) _));rw [Yj]; rfl
  have RD:R ≠ D:=fun z=>DR z.symm;have RV:=sX.keep FV (by simpa using pD) (by simpa using cD);have noD:uT Hb [D]:=uT.one OM;have Rb:uT H4 [p]:=by obtain ⟨aQ,h⟩:=nP.FZ; exact uT.one h
  refine ⟨s4.trans ((QO.mono (by simp)).trans (FV.mono (by simp))),RV,us++[.ref T3],b++[⟨nm,false,rs⟩],_,_,_,_,Ja,hDc,?_,?_,fun k hk=>?_,fun j k Ea=>?_⟩
  ·refine (fc.mono fun v k h=>(h.sb QO Rb).sb FV noD).append (.cons ⟨T3,R,vs,Ja,FV.aP Kj,FV.keep _ _ Y5 (by simpa using RD),jT.sb FV Ru.ag⟩ .nil)
  ·rw [Bk.names,Yj,Yg,en];show Bk.names b++[nm]=_;rw [bn]; rfl
  ·rcases Qw hk with hk | hk
   ·exact good k hk
   ·rw [Qy hk]; exact ⟨rfl,by show rs.length<=4; omega,fun r hr=>(vI r hr).1⟩
  ·rcases Nat.lt_or_ge j b.length with h | h
   ·rw [List.getElem?_append_left h] at Ea;exact OS j k Ea
   ·rw [List.getElem?_append_right h] at Ea;have hj0:j-b.length=0:=by
     rcases Nat.eq_zero_or_pos (j-b.length) with z | z
     ·exact z
     ·rw [List.getElem?_eq_none (by rw [Yi]; omega)] at Ea; cases Ea
    rw [hj0] at Ea;cases Ea;have:j=i:=by omega
    subst this;exact fun r hr=>(vI r hr).2
 ·obtain ⟨s4,nP,us,b,o4,o5,o6,o7,rfl,jt,fc,bn,good,OS⟩:=h;rw [Ye,Yh] at bn;have bl:b.length=ks.length:=by rw [<- bn]; exact (List.length_map ..).symm
  have uG:∀ k ∈ b,k.n ∈ ks:=fun k hk=>by rw [<- bn]; exact Ku ⟨k,hk,Ja⟩
  have tW:SB [p] H H4:=((g7.mono (qs:=[D,p]) (by simp)).trans (s4.mono (by simp))).drop Of;refine ⟨_,Ja,q D b H4 tW nP Of (fun z=>pD z.symm) ⟨us,jt,fc⟩ ⟨⟨by omega,by omega,by rw [bn]; exact knd,fun k hk=>⟨Jd _ (uG k hk),(good k hk).2.1,fun r hr=>⟨((good k hk).2.2 r hr).1.1,fun x hx=>?_⟩⟩⟩,by omega,fun i k e r hr x hx=>?_,fun k hk r hr=>((good k hk).2.2 r hr).1.2⟩ ⟨fun k hk=>(good k hk).1,fun k hk r hr=>((good k hk).2.2 r hr).2.1,fun k hk r hr=>((good k hk).2.2 r hr).2.2.1,fun k hk r hr=>Gr.iS ((good k hk).2.2 r hr).2.2.1,fun k hk r hr=>((good k hk).2.2 r hr).2.2.2⟩⟩
  ·obtain ⟨j,e⟩:=List.getElem?_of_mem hk;rw [bn];exact List.mem_of_mem_take (OS j k e r hr x hx)
  ·have:=OS i k e r hr x hx;rw [Bk.names,List.map_take];rw [<- bn] at this;exact this
abbrev U4:List Str:=[a6,ee,"_law_name","_law_spreads","_law_rules","_law_once","_law_each"]
theorem iy:FnScope U4 [a6] (defScope EY):=fS
theorem zhk (B:BI mg) (v5:Got P w K mg base e7 [a6,ee,aV] (1) (Ig K)) (F:Fun K cA cA EY f fd):FnOk P w K mg base CX0 (2) f fd [a6] (WS K):=by
 refine F.ok iy (fun vs H Q E h=>?_) (fun _ A _ s H vs Q E hr h=>?_)
 ·obtain ⟨d,b,rfl,_⟩:=h
  rfl
 obtain ⟨d,b,rfl,hd,D,PL,q⟩:=h;have bq:=bh hr;refine ⟨_,Qc (ps_set (i:=1) iy.nd rfl (.inr rfl) pe_dnewK)
  (Qc (ps_lock (ps_for PassesOwn.never rfl (pi_items (pv 0)) (pg_tup rfl (Qi (pg_name (i:=2) iy.nd rfl (.inl rfl)) (Qi (pg_tup rfl (Qi (pg_name (i:=3) iy.nd rfl (.inl rfl)) (Qi (pg_name (i:=4) iy.nd rfl (.inl rfl)) pgs_nil))) pgs_nil)))
   (Qe (ps_dput (u1 hr) (pv 1) (pv 2) (pe_op Ko Qg (Qs (cr_max rfl) rfl B.max boot_max (Qa (pe_op op_cat (pe_lst (Qa Qg Qb)) (pe_lc (own:=[("_law_once",5),("_law_each",6)]) (g:=(gTup K 2 (gCons (gName 5) (gCons (gName 6) gNil)))) (tt:=tYes) (te:=(tCall (Ig K) [] E0 (tCons (tVar 0) (tCons (tVar 1) (tCons (tVar 5) tNil))))) rfl iy.nd (pi_list (pv 4)) (blkOk_by (N:=U4) (sc:=defScope EY) (by decide +kernel)) (fun _ _ _ _ _=>(pg_tup rfl (Qi (pg_name (i:=5) iy.nd rfl (.inl rfl)) (Qi (pg_name (i:=6) iy.nd rfl (.inl rfl)) pgs_nil)))) (fun _ _ _ _ _=>pts_nil) (fun _ _ _ _ _=>(bc v5 (Hm hr) rfl (Qa (pv 0) (Qa (pv 1) (Qa (pv 5) Qb))))))) Qb))) rfl))))
  (Qe (Qj (pv 1)))),?_⟩
 have iV:=sizeLine_eq;obtain ⟨us,Ss,DZ⟩:=hd;have ul:=DZ.length;have b8:=D.len;have ok:=D.ok;have kl:(gj b.names us).length=b.length:=by
  show (List.zipWith _ _ _).length=_;rw [List.length_zipWith,Ye]; omega
 intro e ne;have t1:=Jb ne (.dK []);have Bh:kP (upd H e (.dK [])) e [] (fun _=>0):=Qt;have nQ:=t1.keep _ _ Ss aL;have fc:=DZ.mono fun _ _ q=>q.sb t1 uT.nil;have de:d ≠ e:=fun z=>by rw [z,ne] at Ss; cases Ss
 have e0:=ne;generalize upd H e _=H1 at t1 Bh nQ fc;clear DZ;refine fQ ?_;refine ⟨d,_,nQ,trivial,fun od=>?_⟩;have hL:∀ l xs,H1 l=some (.lst xs)->upd H1 d (.frz od (.dK (gj b.names us))) l=some (.lst xs):=fun l xs h=>by rw [upd_ne (fun z=>by rw [z,nQ] at h; cases h)]; exact h
 have hT:∀ a xs,SqT K H1 a xs->SqT K (upd H1 d (.frz od (.dK (gj b.names us)))) a xs:=fun a xs s=>by
  rcases s with (s | ⟨o,s⟩) | s
  ·exact .inl (.inl (by rw [upd_ne (fun z=>by rw [z,nQ] at s; cases s)]; exact s))
  ·exact .inl (.inr ⟨o,by rw [upd_ne (fun z=>by rw [z,nQ] at s; cases s)]; exact s⟩)
  ·exact .inr s
 have yC:z0i (EO K (upd H1 d (.frz od (.dK (gj b.names us))))) us b:=fc.mono fun v k ⟨t,l,zs,e1,e2,e3,e4⟩=>⟨t,l,zs,e1,hT _ _ e2,hL _ _ e3,e4.tp hT Ru.ag⟩;have qQ:upd H1 d (.frz od (.dK (gj b.names us))) d=some (.frz od (.dK (gj b.names us))):=Qt;have Ge:kP (upd H1 d (.frz od (.dK (gj b.names us)))) e [] (fun _=>0):=by
  show upd H1 d _ e=_;rw [upd_ne de.symm]; exact Bh
 have un:∀ H',SB [e] (upd H1 d (.frz od (.dK (gj b.names us)))) H'->SB [e] H1 (upd H' d (.dK (gj b.names us))):=fun H' s=>s.Ap nQ (fun _ z=>nomatch z) (fun _ _ z=>nomatch z);generalize upd H1 d _=HL at yC qQ un Ge;refine ⟨_,Ja,d,od,_,Ja,qQ,?_⟩;refine for_it walk_items (fun i σ G=>SB [e] HL G/\∃ (τ:Str->Int) (o2 o3 o4 o5 o6:Option V),σ=[some (.ref d),some (.ref e),o2,o3,o4,o5,o6]/\kP G e (Bk.names (b.take i)) τ/\(∀ (j:Nat) (k:Kd),j < i->b[j]?=some k->uU τ k (τ k.n))/\∀ n ∈ Bk.names (b.take i),0<=τ n/\τ n<=28 ^ i)
  ⟨SB.refl,_,none,none,none,none,none,rfl,Ge,(fun j k z=>absurd z (Nat.not_lt_zero j)),(fun n hn=>by simp [Bk.names] at hn)⟩ (fun i σ G hi h=>h.1.frzs _ _ _ qQ) (fun i x σ G G' hi h y=>?_) (fun σ G h=>?_)
 ·obtain ⟨s2,τ,o2,o3,o4,o5,o6,rfl,hW,Om,sk⟩:=h;obtain ⟨T,x1,y1,rfl,SR,rfl,ex,ey⟩:=y;have Sd:i < b.length:=by rw [kl] at hi; exact hi
  obtain ⟨k,ek⟩:∃ k,b[i]?=some k:=⟨_,Kp Sd⟩;obtain ⟨u,eu⟩:∃ u,us[i]?=some u:=⟨_,Kp (by omega)⟩;have Tx:b.names[i]?=some k.n:=by rw [List.getElem?_map,ek]; rfl
  have TB:(gj b.names us)[i]?=some (Sum.inr k.n,u):=by
   show (List.zipWith _ _ _)[i]?=_;rw [List.getElem?_zipWith,Tx,eu]
  have ex:(gj b.names us)[i]?.map (fun kv:Key × V=>kV kv.1)=some x1:=ex;have ey:(gj b.names us)[i]?.map Prod.snd=some y1:=ey;rw [TB] at ex ey;cases ex;cases ey;obtain ⟨k',LX,tt,l,zs,e1,e2,e3,e4⟩:=yC.get eu;rw [ek] at LX;cases LX;have e1:u=.ref tt:=e1;subst e1;have le:l ≠ e:=fun z=>by rw [z,Ge] at e3; cases e3
  have t3:=Jb SR (.tup [kV (Sum.inr k.n),.ref tt]);have sy:=n6 t3;have s3:=s2.trans (t3.nil (ps:=[e]));have Kb:kP (upd G T (.tup [kV (Sum.inr k.n),.ref tt])) e _ τ:=t3.keep _ _ hW aL;generalize upd G T _=H3 at t3 sy s3 Kb;have xc:=s3.keep _ _ e3 (by simpa using le);have gI:=e4.sb s3 Ru.ag;refine ⟨T,_,Ja,SqT.of sy,Ja,_,_,Ja,_,_,Ja,tt,_,Ja,s3.aP e2,Ja,_,_,Ja,_,_,Ja,Ja,Ja,?_⟩;refine ⟨Z1,fun Z nZ=>?_⟩;have t4:=Jb nZ (.lst [.int 0]);have Y0:upd H3 Z (.lst [.int 0]) Z=some (.lst ([(0:Int)].map V.int)):=Qt;have s4:=s3.trans t4.nil;have Cj:kP (upd H3 Z (.lst [.int 0])) e _ τ:=t4.keep _ _ Kb aL;have Oy:=t4.keep _ _ xc aL;have yL:=gI.sb t4 Ru.ag;generalize upd H3 Z _=H4 at t4 Y0 s4 Cj Oy yL;have zl:=yL.length;have km:=Qu ek;have ndt:(Bk.names (b.take i)).Nodup:=by
   have:Bk.names (b.take i)=b.names.take i:=by rw [Bk.names,Bk.names,List.map_take]
   rw [this];exact ok.nd.sublist (List.take_sublist _ _)
  have pw:((28:Int) ^ i)<=28 ^ 4:=by
   have h4:i<=4:=by omega
   rcases (by omega:i=0\/i=1\/i=2\/i=3\/i=4) with z | z | z | z | z <;> rw [z] <;> decide
  have b28:(28:Int) ^ 4<=10 ^ 8:=by decide
  refine ⟨_,Ja,l,Ja,⟨zs,SqL.of Oy⟩,fun L nL=>?_⟩;have rW:∀ r ∈ k.rs,Gr.Named (Bk.names (b.take i)) r.1:=fun r hr x hx=>D.ahead i k ek r hr x (i8 _ hx);refine lc_it (walk_list (xs:=zs)) (fun j G2=>SB [L] H4 G2/\G2 L=some (.lst (((k.rs.take j).map fun r=>Gr.bN τ r.1).map V.int))) ⟨SB.new nL _,Qt⟩ (fun j G2 hj h2=>(h2.1.drop nL).fu aL (SqL.of Oy)) (fun j x G2 H' hj h2 y=>?_) (fun G2 h2=>?_)
  ·obtain ⟨s5,xN⟩:=h2;obtain ⟨rfl,ey⟩:=y;obtain ⟨r,er,hx⟩:=yL.get ey;have rm:=Qu er;have jl:j < k.rs.length:=(Kq er).1;have zX:=s5.drop nL;cases (hx:Dp K H4 x (.tuple [r.1.enc,r.2.enc])) with
   | @tup ad tD _ qO hda =>
   cases hda with
   | cons g1 hda =>
   cases hda with
   | cons g2 hda =>
   cases hda;have eL:e ≠ L:=fun z=>by rw [kP,z,nL] at Cj; cases Cj
   refine ⟨ad,_,Ja,zX.aP qO,Ja,_,_,Ja,_,_,Ja,Ja,Ja,?_⟩;have kk4:=(ok.kd k km).2.1;have rp:=D.few k km r rm;refine ⟨_,Ja,_,Ja,_,Ja,.ref d,_,e,Bk.names (b.take i),τ,r.1,Ja,s5.keep _ _ Cj (by simpa using eL),fun n hn=>⟨(sk n hn).1,by have:=(sk n hn).2; omega⟩,ndt,GA.sb g1 zX,by omega,rW r rm,fun H5 s6=>?_⟩;refine ⟨_,s6.keep _ _ xN aL,by rw [Ye,Ye,Kx]; omega,?_⟩;refine ⟨(s5.trans s6.nil).trans (SB.set (ps:=[L]) (s6.keep _ _ xN aL) (by simp) _),?_⟩;rw [Qt,Yg,er,Option.toList_some,Yj,Yj]
   rfl
  obtain ⟨s5,xN⟩:=h2;rw [zl,Yh] at xN;have zX:=s5.drop nL;have hW5:kP G2 e _ τ:=zX.keep _ _ Cj aL;have kk4:=(ok.kd k km).2.1;refine ⟨Z,L,_,_,Ja,Ja,zX.keep _ _ Y0 aL,xN,by simp only [Ye,Yk,List.length_nil]; omega,fun A nA=>?_⟩;have t6:=Jb nA (.lst ([(0:Int)].map V.int++(k.rs.map fun r=>Gr.bN τ r.1).map V.int));have Zd:upd G2 A (.lst ([(0:Int)].map V.int++(k.rs.map fun r=>Gr.bN τ r.1).map V.int)) A=some (.lst ((0::k.rs.map fun r=>Gr.bN τ r.1).map V.int)):=Qt;have J9:kP (upd G2 A (.lst ([(0:Int)].map V.int++(k.rs.map fun r=>Gr.bN τ r.1).map V.int))) e _ τ:=t6.keep _ _ hW5 aL;have s6:=(s4.trans zX.nil).trans t6.nil;generalize upd G2 A _=H6 at t6 Zd J9 s6;refine fz ?_;refine ⟨A,_,Ja,SqL.of Zd,Nat.succ_pos _,fun mx hm hle=>?_⟩;refine ⟨_,_,Ja,Ja,?_⟩;have fresh:k.n ∉ Bk.names (b.take i):=fun z=>by
   obtain ⟨k2,vM,e2⟩:=Qx z;exact Bk.mh ok.nd ek k2 vM e2
  obtain ⟨H7,put,t7,SQ⟩:=J9.put (x:=1+mx) fresh (by rw [Bk.names,Ye,Kx]; omega);refine ⟨_,Ja,_,Ja,e,H7,Ja,put,?_⟩;have XC:Bk.names (b.take (i+1))=Bk.names (b.take i)++[k.n]:=by rw [Yg,ek]; simp [Bk.names]
  have same:∀ n ∈ Bk.names (b.take i),τ n=if n=k.n then 1+mx else τ n:=fun n hn=>by
   have:¬ n=k.n:=fun z=>fresh (z ▸ hn);rw [if_neg this]
  have TN:∀ (j:Nat) (k2:Kd),j<=i->b[j]?=some k2->∀ r ∈ k2.rs,Gr.bN τ r.1=Gr.bN (fun n=>if n=k.n then 1+mx else τ n) r.1:=fun j k2 hj e2 r hr=>Gr.wQ fun p hp=>by
   refine same _ ?_;have h1:=D.ahead j k2 e2 r hr p (i8 _ (Gr.mj hp));obtain ⟨k3,yD,e3⟩:=Qx h1;exact Ku ⟨k3,(List.take_subset_take_left b hj) yD,e3⟩
  have BR:∀ (j:Nat) (k2:Kd) (v:Int),j<=i->b[j]?=some k2->uU τ k2 v->uU (fun n=>if n=k.n then 1+mx else τ n) k2 v:=fun j k2 v hj e2 h=>by
   unfold uU at h ⊢;rw [<- List.map_congr_left (TN j k2 hj e2)];exact h
  have mb:0<=mx/\mx<=27*28 ^ i:=by
   refine ⟨hle 0 (bF ..),?_⟩;have p0:(0:Int)<=28 ^ i:=Int.pow_nonneg (by decide);rcases Qv hm with z | z
   ·omega
   ·obtain ⟨r,hr,rfl⟩:=Qx z;have h1:=Gr.DL (M:=28 ^ i) (PL.num k km r hr) (show r.1.parts<=3 by have:=D.few k km r hr; omega) p0 fun p hp=>sk _ ((Gr.aE.mp (rW r hr) p hp).1);omega
  have p28:(28:Int) ^ (i+1)=28 ^ i*28:=Int.pow_succ ..;have p1:(1:Int)<=28 ^ i:=Int.pow_pos (by decide);refine ⟨s6.trans t7,_,_,_,_,_,_,Ja,by rw [XC]; exact SQ,fun j k2 hj e2=>?_,fun n hn=>?_⟩
  ·by_cases hji:j < i
   ·have h1:=Om j k2 hji e2;have uF:k2.n ∈ Bk.names (b.take i):=by
     refine Ku ⟨k2,List.mem_of_getElem? (i:=j) ?_,Ja⟩;rw [List.getElem?_take_of_lt hji]; exact e2
    rw [<- same _ uF];exact BR j k2 _ (by omega) e2 h1
   ·have:j=i:=by omega
    subst this;rw [ek] at e2;cases e2;rw [if_pos rfl];exact BR j k _ (Yc _) ek ⟨mx,Ja,hm,hle⟩
  ·rw [XC] at hn;rcases Qw hn with z | z
   ·rw [<- same n z];have:=sk n z;omega
   ·rw [Qy z,if_pos rfl];omega
 ·obtain ⟨s2,τ,o2,o3,o4,o5,o6,rfl,hW,Om,sk⟩:=h;rw [kl,Yh] at hW;rw [kl] at Om;have hd2:=s2.frzs _ _ _ qQ;have s3:=un _ s2;have Kb:kP (upd G d (.dK (gj b.names us))) e b.names τ:=by
   show upd G d _ e=_;rw [upd_ne de.symm]; exact hW
  refine ⟨hd2,?_⟩;generalize upd G d _=H3 at Kb s3;refine ⟨_,Ja,q e τ H3 ((t1.nil.trans s3).drop e0) e0 Kb (fun k hk=>?_) fun n hn=>?_⟩
  ·obtain ⟨j,hj,ej⟩:=List.mem_iff_getElem.mp hk;exact Om j k hj (by rw [Kp hj,ej])
  ·have b6:(28:Int) ^ b.length<=28 ^ 5:=by
    rcases (by omega:b.length=0\/b.length=1\/b.length=2\/b.length=3\/b.length=4\/b.length=5) with z | z | z | z | z | z <;> rw [z] <;> decide
   have b7:(28:Int) ^ 5<=10 ^ 8:=by decide
   rw [kl,Yh] at sk;have:=sk n hn;omega
abbrev UQ:List Str:=[bD,ah,a6,ee,"_law_made","_law_groves","_law_ranks","_law_lasting","_law_duel","_law_round","_law_turn","_law_told",gN,"_law_rules","_law_after",aV]
theorem cM:FnScope UQ [bD] (defScope C3):=fS
theorem zit {ae j4 aH:Addr} (B:BI mg) (MV:Got P w K mg base ir [bD] (1) (U9 K)) (MW:Got P w K mg base cb [ah] (4) (Wo K)) (MT:Got P w K mg base cA [a6] (2) (WS K)) (Ux:GotI P w K mg base "Book" ae [aw,"kinds"] (88) (NA K ae j4)) (MY:Got P w K mg base fj [a6,lI] (1) (Wv K)) (df:Got P w K mg base bV [ah,aJ] (1) (Ai)) (v7:Got P w K mg base fP [ah,cY,lx,aJ] (3) (Nu K)) (v5:Got P w K mg base e7 [a6,ee,aV] (1) (Ig K)) (Uw:GotI P w K mg base "Duel" aH [aw,af,aa,cq,ao] (75) (PM K aH ae)) (Mp:GotM P w K mg base aH fT [aw] (1) (Px K aH)) (Ut:GotM P w K mg base aH CV [aw] (1) (PU K aH)) (Uv:GotM P w K mg base aH ni [aw] (96) (Pr K aH ae)) (M3:Got P w K mg base bP [ah,aV] (2) (Wt K)) (MZ:Got P w K mg base dw [aV,gN] (1) (Xe K)) (MU:Got P w K mg base gi [ah] (2) (VN)) (Uu:GotM P w K mg base aH CZ [aw,a7,aR,aF] (76) (PY K aH ae)) (Mv:GotM P w K mg base aH m7 [aw] (1) (QA K aH)) (F:Fun K "law" "law" C3 f fd):FnOk P w K mg base CX0 (230) f fd [bD] (spLaw K):=by
 refine F.ok cM (fun vs H Q E h=>?_) (fun _ A _ _ H vs Q E hr h=>?_)
 ·obtain ⟨a,ns,rfl,_⟩:=h
  rfl
 obtain ⟨a,ns,rfl,hs,nl,q⟩:=h;have bq:=bh hr;refine ⟨_,Qc (ps_set (i:=1) cM.nd rfl (.inl rfl) (bc MV (Hm hr) rfl (Qa (pv 0) Qb)))
  (Qc (ps_set (i:=2) cM.nd rfl (.inr rfl) (bc MW (Hm hr) rfl (Qa (pv 1) Qb)))
  (Qc (ps_set (i:=3) cM.nd rfl (.inr rfl) (bc MT (Hm hr) rfl (Qa (pv 2) Qb)))
  (Qc (ps_set (i:=4) cM.nd rfl (.inl rfl) (VG Ux (Hm hr) rfl (Qa (bc MY (Hm hr) rfl (Qa (pv 2) (Qa (pe_cmpR op_eq (bc df (Hm hr) rfl (Qa (pv 1) (Qa Qg Qb))) Qg (nomark _)) Qb))) Qb)))
  (Qc (ps_set (i:=5) cM.nd rfl (.inl rfl) (pe_lst (Qa (bc v7 (Hm hr) rfl (Qa (pv 1) (Qa (pe_callTy (call_listD rfl) rfl B.list boot_list (Qa (pv 2) Qb)) (Qa Qg (Qa Qg Qb))))) (Qa (bc v7 (Hm hr) rfl (Qa (pv 1) (Qa (pe_callTy (call_listD rfl) rfl B.list boot_list (Qa (pv 2) Qb)) (Qa Qg (Qa Qg Qb))))) Qb))))
  (Qc (ps_setLc (i:=6) (own:=[(aV,15)]) (g:=(gName 15)) (tt:=tYes) (te:=(tCall (Ig K) [] E0 (tCons (tVar 2) (tCons (tVar 3) (tCons (tVar 15) tNil))))) rfl cM.nd rfl rfl (sw_true rfl rfl rfl (by decide +kernel)) (pi_list (pv 5)) (blkOk_by (N:=UQ) (sc:=defScope C3) (by decide +kernel)) (fun _ _ _ _ _=>(pg_name (i:=15) cM.nd rfl (.inl rfl))) (fun _ _ _ _ _=>pts_nil) (fun _ _ _ _ _=>(bc v5 (Hm hr) rfl (Qa (pv 2) (Qa (pv 3) (Qa (pv 15) Qb))))))
  (Qc (Qr (pt_cmpR op_gt (Qs (cr_max rfl) rfl B.max boot_max (Qa (pv 6) Qb)) Qg (nomark _)) (Qe (Qj pe_bl)) pss_nil)
  (Qc (ps_set (i:=7) cM.nd rfl (.inl rfl) (pe_callTy call_int1 rfl B.int boot_int (Qa (pe_cmpR op_le (Qm ix_list (pv 6) Qg (fun _ _=>rfl)) (Qm ix_list (pv 6) Qg (fun _ _=>rfl)) (nomark _)) Qb)))
  (Qc (ps_set (i:=8) cM.nd rfl (.inl rfl) (VG Uw (Hm hr) rfl (Qa (pv 4) (Qa (Qm ix_list (pv 5) Qg (fun _ _=>rfl)) (Qa (pv 4) (Qa (Qm ix_list (pv 5) Qg (fun _ _=>rfl)) Qb))))))
  (Qc (ps_for PassesOwn.never rfl (pi_range1 rfl B.range (Qa (pe_op Ko (Qs (cr_sum rfl) rfl B.sum boot_sum (Qa (pv 6) Qb)) Qg) Qb)) (pg_name (i:=9) cM.nd rfl (.inl rfl))
   (Qc (ps_set (i:=10) cM.nd rfl (.inl rfl) (pe_op op_mod (pv 9) Qg))
  (Qc (Qr (pt_cmpR (O8 (tE hr)) (Qm ix_list (pv 5) (pv 10) (fun _ _=>rfl)) (Ka Qb) (nomark _)) (Qe (Qj (pe_and (pe_cmpR op_ne (pv 10) (pv 7) (nomark _)) (pe_one (pe_cmpR (O8 (tE hr)) (Am Mp (Hm hr) (pv 8)) (pv 10) (nomark _)))))) pss_nil)
  (Qc (Qr (PW.pt (Kk (pt_cmpR op_notN (Am Mp (Hm hr) (pv 8)) pe_non (nomark _)) (pw_or1 (pt_cmpR op_ne (Am Ut (Hm hr) (pv 8)) (pv 10) (nomark _))))) (Qe (Qj pe_bl)) pss_nil)
  (Qc (ps_set (i:=11) cM.nd rfl (.inl rfl) (Am Uv (Hm hr) (pv 8)))
  (Qc (Qr (pt_cmpR op_ne (pv 10) (pv 7) (nomark _)) (Qc (ps_set (i:=12) cM.nd rfl (.inl rfl) (bc M3 (Hm hr) rfl (Qa (pv 1) (Qa (Qm ix_list (pv 5) (pv 10) (fun _ _=>rfl)) Qb))))
  (Qc (ps_set (i:=13) cM.nd rfl (.inl rfl) (Qm Ql (pe_dget (u1 hr) (pv 2) (bc MZ (Hm hr) rfl (Qa (Qm ix_list (pv 5) (pv 10) (fun _ _=>rfl)) (Qa (pv 12) Qb))) (fun _ _=>rfl)) Qg (fun _ _=>rfl)))
  (Qe (ps_set (i:=11) cM.nd rfl (.inl rfl) (Ka (Qa (pv 12) (Qa (bc df (Hm hr) rfl (Qa (pv 1) (Qa (pe_op Ko Qg (Qs call_len_seq rfl B.len PySem.boot_len (Qa (pv 13) Qb))) Qb))) (Qa (bc MU (Hm hr) rfl (Qa (pv 1) Qb)) Qb)))))))) pss_nil)
  (Qc (Qr (PW.pt (Kk (Qp (Qo (xC B (pv 11) B.tuple boot_tuple))) (pw_or1 (pt_cmpR op_ne (Qs call_len_seq rfl B.len PySem.boot_len (Qa (pv 11) Qb)) Qg (nomark _))))) (Qe (Qj pe_bl)) pss_nil)
  (Qc (Kf (zeq Uu (Hm hr) (pv 8) (Qa (Qm Ql (pv 11) Qg (fun _ _=>rfl)) (Qa (Qm Ql (pv 11) Qg (fun _ _=>rfl)) (Qa (Qm Ql (pv 11) Qg (fun _ _=>rfl)) Qb)))))
  (Qc (Qr (pt_cmpR (O5 (tE hr)) (Qm Ql (Am Mv (Hm hr) (pv 8)) (pe_op op_sub Qg (pv 10)) (fun _ _=>rfl)) (Qm ix_list (pv 5) (pe_op op_sub Qg (pv 10)) (fun _ _=>rfl)) (nomark _)) (Qe (Qj pe_bl)) pss_nil)
  (Qc (ps_asg (Qm Ql (Am Mv (Hm hr) (pv 8)) (pv 10) (fun _ _=>rfl)) (pg_sub (pv 5) (pv 10) set_list))
  (Qc (ps_set (i:=14) cM.nd rfl (.inl rfl) (bc v5 (Hm hr) rfl (Qa (pv 2) (Qa (pv 3) (Qa (Qm ix_list (pv 5) (pv 10) (fun _ _=>rfl)) Qb)))))
  (Qc (Qr (Qp (pt_chain op_le op_lt Qg (pv 14) (Qm ix_list (pv 6) (pv 10) (fun _ _=>rfl)))) (Qe (Qj pe_bl)) pss_nil)
  (Qe (ps_asg (pv 14) (pg_sub (pv 6) (pv 10) set_list)))))))))))))))
  (Qe (Qj pe_bl))))))))))),?_⟩
 have iV:=sizeLine_eq;have B2:(1000:Int) < 2 ^ 2000:=by decide +kernel
 refine ⟨_,Ja,a,ns,Ja,hs,nl,fun p H1 s1 np hp=>?_⟩;obtain ⟨cl,hp⟩:=cm.of hp;refine fQ ?_;refine ⟨_,Ja,p,cl,Ja,hp,fun d b H2 s2 fB nd dp Sm DD PL=>?_⟩;refine fQ ?_;refine ⟨_,Ja,d,b,Ja,Sm,DD,PL,fun e τ H3 s3 ne hW WW tb=>?_⟩;refine fQ ?_;have b5:=DD.len;have mY:=fB.sb s3;have JV:=Sm.sb s3 aL uT.nil;have ep:e ≠ p:=fun z=>fB.ne ne z.symm;clear Sm fB hp;refine ⟨_,Ja,_,Ja,p,cl,2,Ja,mY,by decide,by decide +kernel,fun r4 H4 _ _ s4 nP=>?_⟩;refine ⟨rfl,?_⟩;generalize decide (V.int r4=V.int 1)=wd;have Rb:∀ {H:Hp},cm H p cl->uT H [p]:=fun h=>by obtain ⟨aQ,h⟩:=h.FZ; exact uT.one h
 have Ef:=JV.sb s4 (by simpa using dp) (Rb mY);have Cj:kP H4 e b.names τ:=s4.keep _ _ hW (by simpa using ep);refine ⟨d,b,wd,Ja,Ef,by omega,fun L xs H5 s5 nL hL OA=>?_⟩;obtain ⟨cc,ec,OA⟩:∃ c:Bk,(c=b\/c=b.reverse)/\KdAll K H5 [L] xs c:=⟨_,by cases wd <;> simp,OA⟩;have BB:Pb b cc τ:=⟨DD,PL,WW,ec⟩;obtain ⟨same,zZ,lv,M⟩:=DD.made (Yc 5) ec;refine fz ?_;refine zc1 (Q:=fun x H1=>gName 4 x _ H1 _) (bad:=[L]) hL OA M.ok fun bk H6 s6 nbk OE=>?_;have QP:=s5.trans s6;refine fQ ?_;have JU:=Ef.sb QP aL uT.nil;have sY:=nP.sb QP;have J9:kP H6 e b.names τ:=QP.keep _ _ Cj aL;clear OA hL Ef JV nP mY Cj hW;have Ei:xQ K H6 [] d b:=by
  obtain ⟨us,h1,h2⟩:=JU;exact ⟨us,h1,h2.mono fun _ _ ⟨t,l,zs,e1,e2,e3,e4⟩=>⟨t,l,zs,e1,e2,e3,e4,aL⟩⟩
 have Gk:=DD.ok;have bnl:b.names.length=b.length:=List.length_map ..;have nk:∀ k ∈ b.names,fm k:=fun k hk=>Gk.names k hk;have keys:∀ {us:List V},us.length=b.length->(gj b.names us).map (fun kv=>kV kv.1)=b.names.map V.str:=fun {us} ul=>by
  have h:=HW (ns:=b.names) (us:=us) (by omega);have h2:=congrArg (List.map kV) h;rw [List.map_map,List.map_map] at h2;exact h2
 clear JU
 -- the two groves
 obtain ⟨us,Sr,Jt⟩:=id Ei;have ul:=Jt.length;refine ⟨_,Ja,_,Ja,d,_,Ja,.inl Sr,fun N nN=>?_⟩;rw [keys ul];have t7:=Jb nN (.lst (b.names.map V.str));have SY:=n6 t7;have z8:=sY.sb t7;have Np:N ≠ p:=(sY.ne nN).symm;have Sq:=t7.keep _ _ Sr aL;generalize upd H6 N _=H7 at t7 SY z8 Sq;refine ⟨p,N,cl,b.names,4,3,Ja,z8,⟨SY,Np,by omega,nk⟩,by decide,by decide,by decide,fun v0 g0 H8 s8 RU Ji DC pt0 dp0 X9=>?_⟩;have YR:=s8.keep _ _ Sq (by simpa using dp);have XN:SB [p] H6 H8:=t7.nil.trans s8;refine ⟨_,Ja,_,Ja,d,_,Ja,.inl YR,fun N2 Yo=>?_⟩;rw [keys ul];have t9:=Jb Yo (.lst (b.names.map V.str));have SX:=n6 t9;have RT:=RU.sb t9;have Np2:N2 ≠ p:=(RU.ne Yo).symm;generalize upd H8 N2 _=H9 at t9 SX RT;refine ⟨p,N2,cl,b.names,4,3,Ja,RT,⟨SX,Np2,by omega,nk⟩,by decide,by decide,by decide,fun v1 g1 Gq BW qf Oo Oc X2 OR Od=>?_⟩;have Dw:SB [p] H8 Gq:=t9.nil.trans BW;have Ax:=XN.trans Dw;have Jh:=GA.sb Ji Dw;have Cd:=Ei.sb Ax (by simpa using dp) (fun x hx=>.inr fun xs z=>by
  obtain ⟨aQ,eJ⟩:=sY.FZ;rw [Qy hx,eJ] at z; cases z)
 have Kg:kP Gq e b.names τ:=Ax.keep _ _ J9 (by simpa using ep);have Ce:=OE.vv sY Ax;clear SY z8 Sq YR SX RT t7 t9 s8 BW Dw Ax XN RU sY OE J9 Ei Jt Sr;have f0:Fg cc g0:=⟨dp0,⟨_,DC⟩,fun x hx=>(zZ _).mpr (X9 x hx)⟩;have f1:Fg cc g1:=⟨OR,⟨_,Oc⟩,fun x hx=>(zZ _).mpr (Od x hx)⟩;refine ⟨Z2,fun GL Rj=>?_⟩;have q7:=Jb Rj (.lst [v0,v1]);have xi:=n6 q7;have qe:=qf.sb q7;have yI:=(Cd.more Rj).sb q7 aL dc.nil;have xg:kP (upd Gq GL (.lst [v0,v1])) e b.names τ:=q7.keep _ _ Kg aL;have yK:=Ce.dI q7;have vH:=Jh.sb q7;have vF:=Oo.sb q7;have Gc:GL ≠ cl:=(qf.nc Rj).symm;generalize upd Gq GL _=Mi at q7 xi qe yI xg yK vH vF;refine fQ ?_
 -- their ranks
 refine ⟨_,Ja,GL,Ja,⟨_,SqL.of xi⟩,fun RL z4=>?_⟩;have zxv:=z4;have YX:Bears K Mi Gr.enc [v0,v1] [g0,g1]:=.cons vH (.cons vF .nil);have eR:e ≠ RL:=fun z=>by rw [kP,z,z4] at xg; cases xg
 refine lc_it (walk_list (xs:=[v0,v1])) (fun i G=>SB [RL] Mi G/\G RL=some (.lst ((([g0,g1].take i).map fun g=>Gr.bN τ g).map V.int))) ⟨SB.new z4 _,Qt⟩ (fun i G hi h=>(h.1.drop z4).fu aL (SqL.of xi)) (fun i x G H' hi h yy=>?_) (fun G h=>?_)
 ·obtain ⟨iW,nW⟩:=h;obtain ⟨rfl,ey⟩:=yy;obtain ⟨g,eg,hx⟩:=YX.get ey;have QS:=iW.drop z4;have hgn:Gr.Named b.names g/\g.parts<=4:=by
   rcases i with _ | _ | i
   ·cases eg; exact ⟨X9,pt0⟩
   ·cases eg; exact ⟨Od,X2⟩
   ·cases eg
  have i2:i < 2:=(Kq eg).1;refine C8 ⟨rfl,?_⟩;refine ⟨_,Ja,_,Ja,_,Ja,.ref d,x,e,b.names,τ,g,Ja,iW.keep _ _ xg (by simpa using eR),tb,Gk.nd,fK QS _ _ (Gr.ag _) hx,by omega,hgn.1,fun H13 sV=>?_⟩;refine ⟨_,sV.keep _ _ nW aL,by rw [Ye,Ye,Kx]; omega,?_⟩;refine ⟨(iW.trans sV.nil).trans (SB.set (ps:=[RL]) (sV.keep _ _ nW aL) (by simp) _),?_⟩;rw [Qt,Yg,eg,Option.toList_some,Yj,Yj]
  rfl
 obtain ⟨iW,nW⟩:=h;have nW:G RL=some (.lst [.int (Gr.bN τ g0),.int (Gr.bN τ g1)]):=nW;have Cc:=(yI.more z4).sb (iW.drop z4) aL dc.nil;have Rc:RL ≠ cl:=(qe.nc z4).symm;have GR:GL ≠ RL:=ne_of_none xi z4;have Dq:=iW.drop z4;have Jz:=qe.sb Dq;have Kc:kP G e b.names τ:=Dq.keep _ _ xg aL;have vO:=yK.dI Dq;have Bp:=Dq.keep _ _ xi aL;have vG:=vH.sb Dq;have vE:=vF.sb Dq;clear qe qf xg Kg yK Ce yI Cd xi vH vF YX Ji Jh Oo q7 iW Dq;refine fQ ?_;have q0:=(BB.rk f0).2;have q1:=(BB.rk f1).2;refine ⟨_,Ja,RL,[Gr.bN τ g0,Gr.bN τ g1],Ja,SqL.of nW,Nat.succ_pos _,fun mx hm hle=>?_⟩;refine ⟨_,_,Ja,Ja,_,Ja,?_⟩;by_cases h100:100 < mx
 ·rw [Ya h100];exact iteT (q _)
 rw [Qz h100];refine iteF (BK ?_);have l0:Gr.bN τ g0<=100:=by have:=hle _ (bF ..); omega
 have l1:Gr.bN τ g1<=100:=by have:=hle _ (bX _ (bF ..)); omega
 refine ⟨_,Ja,RL,_,_,_,Ja,Ja,SqL.of nW,atI_nat (j:=0) rfl,_,Ja,RL,_,_,_,Ja,Ja,SqL.of nW,atI_nat (j:=1) rfl,_,_,Ja,Ja,.inr ⟨_,Ja,?_⟩⟩;obtain ⟨Lz,eL,OG,S0⟩:∃ Lz:Nat,(if decide (Gr.bN τ g0<=Gr.bN τ g1)=true then (1:Int) else 0)=((Lz:Nat):Int)/\(Lz=1->Gr.bN τ g0<=Gr.bN τ g1)/\(Lz ≠ 1->Lz=0/\Gr.bN τ g1 < Gr.bN τ g0):=by
  by_cases z:Gr.bN τ g0<=Gr.bN τ g1
  ·exact ⟨1,by rw [Ya z]; rfl,fun _=>z,fun w=>absurd rfl w⟩
  ·exact ⟨0,by rw [Qz z]; rfl,fun w=>absurd w (by decide),fun _=>⟨rfl,by omega⟩⟩
 rw [eL];refine fQ ?_;obtain ⟨E0',R0,_,_⟩:=BB.Oa f0 l0;obtain ⟨E1',R1,_,_⟩:=BB.Oa f1 l1;refine ⟨_,Ja,_,Ja,GL,_,_,_,Ja,Ja,SqL.of Bp,atI_nat (j:=0) rfl,_,Ja,_,Ja,GL,_,_,_,Ja,Ja,SqL.of Bp,atI_nat (j:=1) rfl,fun y dx ny ndx ney=>?_⟩;have t1:=Jb ndx (.own y);have X7:upd G dx (.own y) y=none:=by rw [upd_ne ney.symm]; exact ny
 have t2:=Jb X7 (.ins aH dx []);have iW:=t1.trans t2;have cl5:=BB.len;refine ⟨y,dx,.ref bk,v0,.ref bk,v1,cc,cc,g0,g1,cc.names,cc.names,Ja,Qt,⟨vO.dI iW,M.ok,vG.sb iW,by omega,by omega,f0.nm,by omega⟩,⟨vO.dI iW,M.ok,vE.sb iW,by omega,by omega,f1.nm,by omega⟩,.fine f0.nm f1.nm E0' E1',fun G1 s1 hD=>⟨rfl,?_⟩⟩;have u1:SB [] G G1:=((iW.nil (ps:=[y])).trans s1).drop ny;have I0:In60 K aH ae G1 p cl d e y GL RL bk b cc τ 0 g0 g1:={
  vv:=Jz.sb u1
  dk:=xQ.sb (bad:=[GL,RL]) (by
   obtain ⟨us,h1,h2⟩:=Cc;exact ⟨us,h1,h2.mono fun _ _ ⟨t,l,zs,e1,e2,e3,e4,e5⟩=>⟨t,l,zs,e1,e2,e3,e4,fun z=>e5 (by simpa [or_comm] using z)⟩⟩) u1 aL dc.nil
  wr:=u1.keep _ _ Kc aL
  EF:=vO.dI u1
  du:=⟨v0,v1,v0,v1,hD,.inl ⟨rfl,rfl,rfl⟩,vG.sb u1,vE.sb u1⟩
  gl:=⟨v0,v1,v0,v1,u1.keep _ _ Bp aL,.inl ⟨rfl,rfl,rfl⟩,vG.sb u1,vE.sb u1⟩
  rl:=⟨_,_,u1.keep _ _ nW aL,.inl ⟨rfl,rfl,rfl⟩⟩
  fg:=f0
  fo:=f1
  lg:=l0
  lo:=l1
  dp:=dp
  ep:=ep
  gr:=GR
  gc:=Gc
  rc:=Rc }
 clear vG vE Bp vO Kc Cc Jz iW t1 t2 X7 hD s1;have hR1:=u1.keep _ _ nW aL;refine OW ?_;refine ⟨_,Ja,RL,[Gr.bN τ g0,Gr.bN τ g1],Ja,SqL.of hR1,_,_,Ja,Ja,?_⟩;have yat:([Gr.bN τ g0,Gr.bN τ g1]:List Int).sum=Gr.bN τ g0+Gr.bN τ g1:=by simp
 obtain ⟨tot,Tv⟩:∃ tot:Nat,([Gr.bN τ g0,Gr.bN τ g1]:List Int).sum+1=((tot:Nat):Int):=⟨(Gr.bN τ g0+Gr.bN τ g1+1).toNat,by omega⟩;refine ⟨((tot:Nat):Int),by show [V.int (([Gr.bN τ g0,Gr.bN τ g1]:List Int).sum+1)]=_; rw [Tv],by omega,by omega,?_⟩;rw [Int.toNat_natCast];refine for_it (walk_range (lo:=0) (n:=tot)) (fun r T G=>∃ (g o:Gr) (o9 Ra Q9 DH DG IV IU:Option V),T=[some (.ref a),some (.ref p),some (.ref d),some (.ref e),some (.ref bk),some (.ref GL),some (.ref RL),some (.int (Lz:Nat)),some (.ref y),o9,Ra,Q9,DH,DG,IV,IU]/\In60 K aH ae G p cl d e y GL RL bk b cc τ (r % 2) g o/\Gr.bN τ g+Gr.bN τ o+r+1<=(tot:Int)/\(r % 2=Lz->Gr.bN τ o < Gr.bN τ g)/\(r % 2 ≠ Lz->Gr.bN τ g<=Gr.bN τ o))
  ⟨g0,g1,none,none,none,none,none,none,none,rfl,I0,by omega,fun z=>(S0 (by omega)).2,fun z=>OG (by rcases Nat.decEq Lz 1 with w | w; exact absurd (S0 w).1.symm z; exact w)⟩ (fun _ _ _ _ _=>trivial) (fun r z T G' G hr h yy=>?_) (fun T G h=>?_)
 ·obtain ⟨g,o,o9,Ra,Q9,DH,DG,IV,IU,rfl,I,tl,i1,i2⟩:=h;obtain ⟨rfl,rfl⟩:=yy;obtain ⟨h,hh⟩:∃ h,r % 2=h:=⟨_,rfl⟩;have h1:h<=1:=by omega
  have uE:(r+1) % 2=1-h:=by omega
  rw [hh] at I i1 i2;have eh:(0+((r:Nat):Int)) % 2=((h:Nat):Int):=by omega
  have q2:=(BB.rk I.fg).2;have q3:=(BB.rk I.fo).2;refine C8 ?_;refine ⟨_,Ja,_,_,Ja,Ja,(by show (0:Int) < 2; decide),?_⟩;dsimp only;rw [eh];refine C8 ?_;obtain ⟨w0,w1,v,u,xh,nO,hv,hu⟩:=I.gl;obtain ⟨Cg,X5⟩:=I.fg.ok;obtain ⟨Cg2,oko⟩:=I.fo.ok;have dg:=I.fg.deep;have dgo:=I.fo.deep;refine ⟨_,Ja,_,Ja,GL,_,_,_,Ja,Ja,SqL.of xh,nO.own,Z0,fun z nz=>?_⟩;have t3:=Jb nz (.tup []);refine ⟨_,_,hv.sb t3,HR (SqT.of Qt),Gr.wd X5 (by omega),Gr.xS,_,Ja,?_⟩;rw [Gr.bw];have I3:=I.sb t3;clear xh nO hv hu I;generalize upd G z _=G3 at t3 I3;clear t3 nz;obtain ⟨w0,w1,v,u,xh,nO,hv,hu⟩:=I3.gl;obtain ⟨x0,x1,vd,ud,hD,F6,F4,Ot⟩:=I3.du;obtain ⟨dy,T1,U1,hi,Ep,Eo⟩:=id hD;by_cases gn:g=.nil
  ·rw [Ya gn];have sh:h ≠ Lz:=fun z=>by
    have:=i1 z;rw [gn] at this;have e:Gr.bN τ .nil=0:=rfl;omega
   refine iteT ?_;refine ⟨_,Ja,_,Ja,Ja,?_⟩;have en:decide (V.int ((h:Nat):Int)=V.int ((Lz:Nat):Int))=false:=Qz fun z=>sh (by have:=V.int.inj z; omega);refine ⟨_,Ja,?_⟩;rw [en];refine iteT ?_;refine ⟨_,Ja,y,dy,_,Ja,hi,Ja,?_⟩;refine fz ?_;refine ⟨y,_,x0,x1,vd,ud,h,g,Ja,hD,F6,F4,fun _=>?_,fun z=>absurd gn z⟩;have Xy:Wd (.int ((h:Nat):Int)):=Wd.of (zc9 (by simp [plS]) (by simp [PyData.depth]));refine ⟨_,Ja,_,_,.int _,.int _,Xy,Xy,?_⟩;rw [show PyData.eqv (.int ((h:Nat):Int)) (.int ((h:Nat):Int))=true by simp [PyData.eqv]];exact q _
  rw [Qz gn];refine iteF (BK ?_);refine ⟨_,Ja,y,dy,_,Ja,hi,Ja,?_⟩;refine fz ?_;refine ⟨y,_,x0,x1,vd,ud,h,g,Ja,hD,F6,F4,fun z=>absurd z gn,fun _=>?_⟩;refine ⟨rfl,_,Ja,?_⟩;rw [Ya rfl];refine iteF ?_;refine ⟨_,Ja,y,dy,_,Ja,hi,Ja,?_⟩;refine fz ?_;refine ⟨y,_,_,h,Ja,hD,?_⟩;refine ⟨_,Ja,Ja,_,Ja,?_⟩;rw [Ya rfl];refine iteF (BK ?_)
  -- the answer
  refine NF (fun σ' G4=>In60 K aH ae G4 p cl d e y GL RL bk b cc τ h g o/\∃ tv:V,σ'=[some (.ref a),some (.ref p),some (.ref d),some (.ref e),some (.ref bk),some (.ref GL),some (.ref RL),some (.int (Lz:Nat)),some (.ref y),some (.int (0+(r:Int))),some (.int (h:Nat)),some tv,DH,DG,IV,IU]/\(h=Lz->∃ (pp pa:Addr) (fa:Fa) (k:Str) (kd:Kd) (ru:Ru),tv=.ref pp/\SqT K G4 pp [.ref pa,.int (fa.2.1:Nat),.int fa.2.2]/\SqT K G4 pa (fa.1.map fun n:Nat=>V.int (n:Int))/\FlAt cc g fa k kd ru/\Gr.bN τ o<=Gr.bN τ (fl cc g fa).1)) (fun nx uE=>?_) (fun σ' G4 hv4=>?_)
  ·refine ⟨_,Ja,y,dy,_,Ja,hi,Ja,?_⟩;refine fz ?_;refine ⟨y,.ref bk,x0,x1,vd,ud,h,b,cc,τ,g,o,Ja,hD,F6,⟨I3.EF,BB⟩,⟨F4,I3.fg,I3.lg⟩,⟨Ot,I3.fo,I3.lo⟩,fun d4 pp pa fa k kd ru H4 s4 z7 lE F hle=>?_,fun d4 H4 s4=>?_⟩
   ·exact C8 (uE _ _ ⟨I3.sb s4,_,Ja,fun _=>⟨pp,pa,fa,k,kd,ru,Ja,z7,lE,F,hle⟩⟩)
   ·exact C8 (uE _ _ ⟨I3.sb s4,_,Ja,fun z=>absurd (i1 z) d4⟩)
  obtain ⟨I4,tv,rfl,htv⟩:=hv4;clear F4 Ot hv hu hD F6 hi Ep Eo xh nO I3;refine NF (fun σ' G5=>In60 K aH ae G5 p cl d e y GL RL bk b cc τ h g o/\∃ (pp pa:Addr) (fa:Fa) (k:Str) (kd:Kd) (ru:Ru) (DH DG:Option V),σ'=[some (.ref a),some (.ref p),some (.ref d),some (.ref e),some (.ref bk),some (.ref GL),some (.ref RL),some (.int (Lz:Nat)),some (.ref y),some (.int (0+(r:Int))),some (.int (h:Nat)),some (.ref pp),DH,DG,IV,IU]/\SqT K G5 pp [.ref pa,.int (fa.2.1:Nat),.int fa.2.2]/\SqT K G5 pa (fa.1.map fun n:Nat=>V.int (n:Int))/\FlAt cc g fa k kd ru/\(h=Lz->Gr.bN τ o<=Gr.bN τ (fl cc g fa).1)) (fun nx uE=>?_) (fun σ' G5 Rz=>?_)
  ·refine ⟨_,Ja,_,Ja,Ja,_,Ja,?_⟩;by_cases hz:h=Lz
   ·obtain ⟨pp,pa,fa,k,kd,ru,rfl,k1,k2,k3,k4⟩:=htv hz;rw [Ya (by rw [hz])];exact iteF (uE _ _ ⟨I4,pp,pa,fa,k,kd,ru,_,_,Ja,k1,k2,k3,fun _=>k4⟩)
   rw [Qz (fun z=>hz (by have:=V.int.inj z; omega))];refine iteT ?_;obtain ⟨w0,w1,v,u,xh,nO,hv,hu⟩:=I4.gl;have gp5:=I4.fg.parts BB.len;refine ⟨_,Ja,_,Ja,_,Ja,GL,_,_,_,Ja,Ja,SqL.of xh,nO.own,?_⟩;refine fz ?_;refine ⟨p,cl,v,g,Cg,Ja,I4.vv,hv,X5,by omega,by omega,gn,fun pa pl k H5 s5 sZ lE hb=>?_⟩;refine fQ ?_;have I5:=I4.draw s5 sZ;have S1:H5 GL=some (.lst [w0,w1]):=s5.keep _ _ xh (fun z=>by
    obtain ⟨aQ,eJ⟩:=I4.vv.FZ;rw [Qy z,eJ] at xh; cases xh)
   have Rz:=hv.sb s5;have kn:=Gr.eS I5.fg.nm hb;obtain ⟨kd,eg⟩:=Bk.dW kn;obtain ⟨km,ekn⟩:=Bk.get_some eg;have k4:=(M.ok.kd kd km).2.1;obtain ⟨us5,hd5,RQ⟩:=I5.dk;obtain ⟨kv,e6,t6,l6,Zy,rfl,k6,k7,k8,_⟩:=V6 RQ ((same k).trans eg);have zl6:=k8.length;refine ⟨_,Ja,_,Ja,_,Ja,GL,_,_,_,Ja,Ja,SqL.of S1,nO.own,_,Ja,?_⟩;refine fz ?_;refine ⟨v,pa,g,pl,k,Ja,Rz,lE,hb,d,_,Ja,i5 hd5 e6,t6,_,_,_,Ja,Ja,k6,atI_nat (j:=1) rfl,?_⟩;refine fQ ?_;refine ⟨_,Ja,_,Ja,_,Ja,l6,Zy,Ja,.inl (SqL.of k7),_,_,Ja,Ja,?_⟩;refine fz ?_;refine ⟨p,cl,_,Ja,I5.vv,by omega,by omega,fun rr H6 rr0 rrm s6 sY=>?_⟩;have I6:=I5.draw s6 sY;obtain ⟨ri,rfl⟩:∃ ri:Nat,rr=(ri:Int):=⟨rr.toNat,by omega⟩;refine ⟨_,Ja,p,cl,Ja,sY,fun n H7 n0 n9 s7 z8=>?_⟩;have I7:=I6.draw s7 z8;have RR:=(s6.trans s7).aP lE;refine ⟨Z3,fun T2 AL=>?_⟩;have t8:=Jb AL (.tup [.ref pa,.int (ri:Nat),.int n]);obtain ⟨ru,eru⟩:∃ ru,(iZ::kd.rs)[ri]?=some ru:=⟨_,Kp (by rw [Yk]; omega)⟩;exact C8 (uE _ _ ⟨I7.sb t8,T2,pa,(pl,ri,n),k,kd,ru,_,_,Ja,SqT.of Qt,t8.aP RR,⟨hb,eg,eru,n0,Int.lt_trans n9 (by decide)⟩,fun z=>absurd z hz⟩)
  obtain ⟨I5,pp,pa,fa,k,kd,ru,DH,DG,rfl,z7,lE,F,hle⟩:=Rz;obtain ⟨Gh,lt'⟩:=BB.less I5.fg F;have gp5:=I5.fg.parts BB.len;have gok:=I5.fg.num BB.pos I5.lg (by decide);have gp6:=Gh.parts BB.len;have gd6:=Gh.deep;refine ⟨_,rfl,_,_,"tuple",true,rfl,HP z7,by decide +kernel,_,rfl,iteF ?_⟩;refine ⟨_,Ja,pp,_,Ja,.inr z7,Ja,false,by show V.bl (!decide (V.int 3=V.int 3))=V.bl false; rw [Ya rfl]; rfl,?_⟩;refine iteF (BK ?_);obtain ⟨x0,x1,vd,ud,hD,F6,F4,Ot⟩:=I5.du;obtain ⟨dy,T1,U1,hi,Ep,Eo⟩:=id hD;obtain ⟨w0,w1,v,u,xh,nO,hv,hu⟩:=I5.gl;refine ⟨_,Ja,y,dy,_,Ja,hi,Ja,_,Ja,pp,_,_,_,Ja,Ja,z7,atI_nat (j:=0) rfl,_,Ja,pp,_,_,_,Ja,Ja,z7,atI_nat (j:=1) rfl,_,Ja,pp,_,_,_,Ja,Ja,z7,atI_nat (j:=2) rfl,?_⟩;refine fz ?_;refine ⟨y,pa,.ref bk,.ref bk,x0,x1,vd,ud,h,cc,g,1,fa,k,kd,ru,Ja,hD,F6,⟨by rw [ite_self]; exact I5.EF,M.ok⟩,⟨F4,gok.mono (by decide),by omega,by omega,I5.fg.nm⟩,lE,F,⟨by omega,by omega⟩,fun x y0 y1 H6 s6 hS hx i4=>?_⟩;have Y9:GL ≠ y:=fun z=>by rw [z,hi] at xh; cases xh
  have Et:=s6.keep _ _ xh (by simpa using Y9);have Jk:=Ot.sb s6;have Yy:=hu.sb s6;obtain ⟨Zt,T6,U6,YN,hT6,hU6⟩:=id i4;have Xx:Wd o.enc:=Gr.wd oko (by omega);refine ⟨_,Ja,y,Zt,_,Ja,YN,Ja,?_⟩;refine fz ?_;refine ⟨y,_,_,_,Ja,i4,fun U7 hU7=>?_⟩;refine ⟨_,Ja,_,_,Ja,Ja,U7,_,_,_,Ja,Ja,hU7,hS.vw,?_⟩;refine ⟨_,Ja,_,Ja,_,_,Ja,Ja,GL,_,_,_,Ja,Ja,SqL.of Et,nO.vw,?_⟩;refine ⟨_,_,Jk,Yy,Xx,Xx,_,Ja,?_⟩;rw [Gr.bw,Ya rfl];refine iteF (BK ?_);refine ⟨_,Ja,y,Zt,_,Ja,YN,Ja,?_⟩;refine fz ?_;refine ⟨y,_,_,_,Ja,i4,fun U8 hU8=>?_⟩;refine ⟨_,Ja,U8,_,_,_,Ja,Ja,hU8,hS.own,?_⟩;obtain ⟨c0,CJ,ec,sc⟩:=nO.set x;have YM:∀ q0 q1:V,ixN [q0,q1].length ((h:Nat):Int)=some h:=fun q0 q1=>by rcases (by omega:h=0\/h=1) with z | z <;> rw [z] <;> rfl
  refine ⟨_,Ja,_,Ja,GL,_,_,h,Ja,Ja,Et,YM _ _,?_⟩;rw [ec];have t7:=SB.set (ps:=[GL]) Et (by simp) (.lst [c0,CJ]);have OH:upd H6 GL (.lst [c0,CJ]) GL=some (.lst [c0,CJ]):=Qt;have s7:SB [y,GL] G5 (upd H6 GL (.lst [c0,CJ])):=(s6.mono (by simp)).trans (t7.mono (by simp));have F0:=hx.sb t7;have DU:=Jk.sb t7;have DV:=Yy.sb t7;have xO:=i4.sb t7 (by simpa using Y9.symm);generalize upd H6 GL _=H7 at t7 OH s7 F0 DU DV xO;obtain ⟨SQ,_⟩:=I5.turn s7 hS F0 DU xO OH sc F0 DV Gh lt';refine ⟨_,Ja,_,Ja,_,Ja,_,Ja,GL,_,_,_,Ja,Ja,SqL.of OH,sc.own,?_⟩;refine fz ?_;refine ⟨.ref d,x,e,b.names,τ,_,Ja,SQ,tb,Gk.nd,F0,by omega,fun z hz=>(zZ _).mp (Gh.nm z hz),fun H8 s8=>?_⟩;refine fQ ?_;obtain ⟨_,b0,b1,e0,e0',Y6,sb8,er8,I8⟩:=I5.turn (s7.trans s8.nil) hS (F0.sb s8) (DU.sb s8) (xO.sb s8 aL) (s8.keep _ _ OH aL) sc (F0.sb s8) (DV.sb s8) Gh lt';have q9:=(BB.rk Gh).2;refine ⟨_,Ja,_,_,Ja,Ja,?_⟩;refine ⟨_,Ja,?_⟩;rw [Ya (show (0:Int)<=_ from q9)];refine iteT ?_;refine ⟨_,Ja,_,Ja,RL,_,_,_,Ja,Ja,SqL.of Y6,sb8.own,_,_,Ja,Ja,_,Ja,?_⟩;rw [Ya lt'];refine iteF (BK ?_);refine ⟨_,Ja,_,Ja,_,Ja,RL,_,_,h,Ja,Ja,Y6,YM _ _,?_⟩;rw [er8];have hLz:Lz<=1:=by rcases Nat.decEq Lz 1 with w | w; have:=(S0 w).1; omega; omega
  refine ⟨o,(fl cc g fa).1,_,_,_,_,_,_,_,Ja,by rw [uE]; exact I8,by omega,fun z=>?_,fun z=>?_⟩
  ·have:=i2 (by omega); omega
  ·exact hle (by omega)
 ·obtain ⟨g,o,o9,Ra,Q9,DH,DG,IV,IU,rfl,I,tl,i1,i2⟩:=h;have q2:=(BB.rk I.fg).2;have q3:=(BB.rk I.fo).2;omega
end
structure Kt (P:Program) (w:World) (K:Qn) (mg:Str->Option Value) (base:Heap) (x:Str) (a:List Str) (st:Stmt) (f:Addr) (fd:FuncData):Prop where
 F:Fun K x x st f fd
 b:Binds K fd a []
 m:mg x=some (.ref f)
section
variable {P:Program} {w:World} {K:Qn} {mg:Str->Option Value} {base:Heap} {x:Str} {a:List Str} {st:Stmt} {f:Addr} {fd:FuncData} {l:Nat} {sp:Sp}
theorem Kt.g (k:Kt P w K mg base x a st f fd) (h:Fun K x x st f fd->FnOk P w K mg base CX0 l f fd a sp):Got P w K mg base x a l sp:=⟨_,_,h k.F,k.F.kp,k.b,k.m⟩
theorem Kt.y (k:Kt P w K mg base x a st f fd) (h:Fun K x x st f fd->FnOk P w K mg base (L2.CX P w) l f fd a sp):GotX P w K mg base x a l sp:=⟨_,_,h k.F,k.F.kp,k.b,k.m⟩
theorem kt (P:Program) (w:World) (K:Qn) (mg:Str->Option Value) (base:Heap) {h:Heap} (X:K.In h) (G:h.Ns mainGlobals mg) (c:He.SaysD fa fn K) (i j:Nat) {x:Str} {st:Stmt} {a:List Str} (h1:fn[i]?=some ⟨(x,none),x,x,defArgs st,defBody st,defScope st,[],[]⟩) (h2:fa[j]?=some (.glo x)) (h3:∀ (kV doc pm:Value) (an:Option Addr) (uP ct:Value) (us:List Value),us.length=a.length->bindArgs (PySem.W.fnOf x x (defArgs st) (defBody st) (defScope st) .none kV doc pm an uP ct) ⟨us,[]⟩=pure (a.zip us)):∃ f fd,Kt P w K mg base x a st f fd:=by
 obtain ⟨fd,D⟩:=c.def_ i h1;have F:Fun K x x st _ fd:=He5.fun_of D;exact ⟨_,fd,F,F.binds h3,He.glo_ok X G (c.fact j h2)⟩
theorem kt1 (P:Program) (w:World) (K:Qn) (mg:Str->Option Value) (base:Heap) {h:Heap} (X:K.In h) (G:h.Ns mainGlobals mg) (c:He.SaysD fa fn K) (i:Nat) {x:Str} {st:Stmt} (a:List Str) (h1:fn[i]?=some ⟨(x,none),x,x,defArgs st,defBody st,defScope st,[],[]⟩:=by exact rfl) (h2:fa[i]?=some (.glo x):=by exact rfl) (hl:a.length=1:=by exact rfl) (h3:∀ (kV doc pm:Value) (an:Option Addr) (uP ct u0:Value),bindArgs (PySem.W.fnOf x x (defArgs st) (defBody st) (defScope st) .none kV doc pm an uP ct) ⟨[u0],[]⟩=pure (a.zip [u0]):=by exact fun _ _ _ _ _ _ _=>rfl):∃ f fd,Kt P w K mg base x a st f fd :=
 kt P w K mg base X G c i i h1 h2 fun k d p n v t us z=>match us,(show us.length=1 from z.trans hl) with | [u0],_=>h3 k d p n v t u0
theorem kt2 (P:Program) (w:World) (K:Qn) (mg:Str->Option Value) (base:Heap) {h:Heap} (X:K.In h) (G:h.Ns mainGlobals mg) (c:He.SaysD fa fn K) (i:Nat) {x:Str} {st:Stmt} (a:List Str) (h1:fn[i]?=some ⟨(x,none),x,x,defArgs st,defBody st,defScope st,[],[]⟩:=by exact rfl) (h2:fa[i]?=some (.glo x):=by exact rfl) (hl:a.length=2:=by exact rfl) (h3:∀ (kV doc pm:Value) (an:Option Addr) (uP ct u0 u1:Value),bindArgs (PySem.W.fnOf x x (defArgs st) (defBody st) (defScope st) .none kV doc pm an uP ct) ⟨[u0,u1],[]⟩=pure (a.zip [u0,u1]):=by exact fun _ _ _ _ _ _ _ _=>rfl):∃ f fd,Kt P w K mg base x a st f fd :=
 kt P w K mg base X G c i i h1 h2 fun k d p n v t us z=>match us,(show us.length=2 from z.trans hl) with | [u0,u1],_=>h3 k d p n v t u0 u1
theorem kt3 (P:Program) (w:World) (K:Qn) (mg:Str->Option Value) (base:Heap) {h:Heap} (X:K.In h) (G:h.Ns mainGlobals mg) (c:He.SaysD fa fn K) (i:Nat) {x:Str} {st:Stmt} (a:List Str) (h1:fn[i]?=some ⟨(x,none),x,x,defArgs st,defBody st,defScope st,[],[]⟩:=by exact rfl) (h2:fa[i]?=some (.glo x):=by exact rfl) (hl:a.length=3:=by exact rfl) (h3:∀ (kV doc pm:Value) (an:Option Addr) (uP ct u0 u1 u2:Value),bindArgs (PySem.W.fnOf x x (defArgs st) (defBody st) (defScope st) .none kV doc pm an uP ct) ⟨[u0,u1,u2],[]⟩=pure (a.zip [u0,u1,u2]):=by exact fun _ _ _ _ _ _ _ _ _=>rfl):∃ f fd,Kt P w K mg base x a st f fd :=
 kt P w K mg base X G c i i h1 h2 fun k d p n v t us z=>match us,(show us.length=3 from z.trans hl) with | [u0,u1,u2],_=>h3 k d p n v t u0 u1 u2
theorem kt4 (P:Program) (w:World) (K:Qn) (mg:Str->Option Value) (base:Heap) {h:Heap} (X:K.In h) (G:h.Ns mainGlobals mg) (c:He.SaysD fa fn K) (i:Nat) {x:Str} {st:Stmt} (a:List Str) (h1:fn[i]?=some ⟨(x,none),x,x,defArgs st,defBody st,defScope st,[],[]⟩:=by exact rfl) (h2:fa[i]?=some (.glo x):=by exact rfl) (hl:a.length=4:=by exact rfl) (h3:∀ (kV doc pm:Value) (an:Option Addr) (uP ct u0 u1 u2 u3:Value),bindArgs (PySem.W.fnOf x x (defArgs st) (defBody st) (defScope st) .none kV doc pm an uP ct) ⟨[u0,u1,u2,u3],[]⟩=pure (a.zip [u0,u1,u2,u3]):=by exact fun _ _ _ _ _ _ _ _ _ _=>rfl):∃ f fd,Kt P w K mg base x a st f fd :=
 kt P w K mg base X G c i i h1 h2 fun k d p n v t us z=>match us,(show us.length=4 from z.trans hl) with | [u0,u1,u2,u3],_=>h3 k d p n v t u0 u1 u2 u3
theorem kt5 (P:Program) (w:World) (K:Qn) (mg:Str->Option Value) (base:Heap) {h:Heap} (X:K.In h) (G:h.Ns mainGlobals mg) (c:He.SaysD fa fn K) (i:Nat) {x:Str} {st:Stmt} (a:List Str) (h1:fn[i]?=some ⟨(x,none),x,x,defArgs st,defBody st,defScope st,[],[]⟩:=by exact rfl) (h2:fa[i]?=some (.glo x):=by exact rfl) (hl:a.length=5:=by exact rfl) (h3:∀ (kV doc pm:Value) (an:Option Addr) (uP ct u0 u1 u2 u3 u4:Value),bindArgs (PySem.W.fnOf x x (defArgs st) (defBody st) (defScope st) .none kV doc pm an uP ct) ⟨[u0,u1,u2,u3,u4],[]⟩=pure (a.zip [u0,u1,u2,u3,u4]):=by exact fun _ _ _ _ _ _ _ _ _ _ _=>rfl):∃ f fd,Kt P w K mg base x a st f fd :=
 kt P w K mg base X G c i i h1 h2 fun k d p n v t us z=>match us,(show us.length=5 from z.trans hl) with | [u0,u1,u2,u3,u4],_=>h3 k d p n v t u0 u1 u2 u3 u4
end
theorem facts {w:World} {K:Qn} (X:K.In h) (G:h.Ns mainGlobals mg) (hfa:mg ("law":Str)=some (.ref f)) (c:He.SaysD fa fn K) (cx:Bv K=true) :
  ∃ fd:FuncData,(∀ (s:Shared) (v:Value),BindsTo s fd ⟨[v],[]⟩ [(bD,v)])/\∀ base:Heap,K.In base->base.Ns mainGlobals mg->FnOk P w K mg base CX0 230 f fd [bD] (spLaw K):=by
 obtain ⟨yU,CU⟩:=c.def_ 79 (d:=Vm) rfl;have M7:Fun K "law" "law" C3 _ yU:=He5.fun_of CU;have IX:=He.glo_ok X G (c.fact 79 (f:=.glo "law") rfl);obtain ⟨EA,Ng⟩:=c.def_ 80 (d:=Vb) rfl;have CS:Fun K "__init__" "NoKind.__init__" Fs _ EA:=He5.fun_of Ng;have Mc:=CS.binds (ps:=[aw,"kind"]) fun _ _ _ _ _ _ us hl=>match us,hl with | [_,_],_=>rfl
 obtain ⟨EB,Nh⟩:=c.def_ 81 (d:=Vg) rfl;have CT:Fun K "__init__" "Endless.__init__" Fh _ EB:=He5.fun_of Nh;have Md:=CT.binds (ps:=[aw,"kind"]) fun _ _ _ _ _ _ us hl=>match us,hl with | [_,_],_=>rfl
 obtain ⟨LU,UJ⟩:=c.def_ 82 (d:=L8) rfl;have Nf:Fun K "__init__" "Book.__init__" rE _ LU:=He5.fun_of UJ;have Uc:=Nf.binds (ps:=[aw,"kinds"]) fun _ _ _ _ _ _ us hl=>match us,hl with | [_,_],_=>rfl
 obtain ⟨LS,UI⟩:=c.def_ 83 (d:=L7) rfl;have Nd:Fun K eU "Book.names" wI _ LS:=He5.fun_of UI;have Ub:=Nd.binds (ps:=[aw]) fun _ _ _ _ _ _ us hl=>match us,hl with | [_],_=>rfl
 obtain ⟨LQ,UG⟩:=c.def_ 84 (d:=L5) rfl;have Nb:Fun K "spreads" "Book.spreads" wG _ LQ:=He5.fun_of UG;have T8:=Nb.binds (ps:=[aw,aI]) fun _ _ _ _ _ _ us hl=>match us,hl with | [_,_],_=>rfl
 obtain ⟨LR,UH⟩:=c.def_ 85 (d:=L6) rfl;have Nc:Fun K "rules" "Book.rules" wH _ LR:=He5.fun_of UH;have T9:=Nc.binds (ps:=[aw,aI]) fun _ _ _ _ _ _ us hl=>match us,hl with | [_,_],_=>rfl
 obtain ⟨LP,UE⟩:=c.def_ 86 (d:=L4) rfl;have Na:Fun K "__init__" "Duel.__init__" wF _ LP:=He5.fun_of UE;have T7:=Na.binds (ps:=[aw,af,aa,cq,ao]) fun _ _ _ _ _ _ us hl=>match us,hl with | [_,_,_,_,_],_=>rfl
 obtain ⟨LK,Uy⟩:=c.def_ 87 (d:=LY) rfl;have M4:Fun K CV "Duel.turn" wy _ LK:=He5.fun_of Uy;have TU:=M4.binds (ps:=[aw]) fun _ _ _ _ _ _ us hl=>match us,hl with | [_],_=>rfl
 obtain ⟨LM,UA⟩:=c.def_ 88 (d:=L0) rfl;have M6:Fun K m7 "Duel.groves" wB _ LM:=He5.fun_of UA;have TX:=M6.binds (ps:=[aw]) fun _ _ _ _ _ _ us hl=>match us,hl with | [_],_=>rfl
 obtain ⟨LN,UC⟩:=c.def_ 89 (d:=L1) rfl;have M8:Fun K CZ "Duel.fall" wC _ LN:=He5.fun_of UC;have TY:=M8.binds (ps:=[aw,a7,aR,aF]) fun _ _ _ _ _ _ us hl=>match us,hl with | [_,_,_,_],_=>rfl
 obtain ⟨LO,UD⟩:=c.def_ 90 (d:=L3) rfl;have M9:Fun K ni "Duel.answer" wD _ LO:=He5.fun_of UD;have TZ:=M9.binds (ps:=[aw]) fun _ _ _ _ _ _ us hl=>match us,hl with | [_],_=>rfl
 obtain ⟨LL,Uz⟩:=c.def_ 91 (d:=LZ) rfl;have M5:Fun K fT "Duel.outlasted" wz _ LL:=He5.fun_of Uz;have TV:=M5.binds (ps:=[aw]) fun _ _ _ _ _ _ us hl=>match us,hl with | [_],_=>rfl
 have B:BI mg:=⟨He.free_ok X G (c.fact 80 (f:=.free "len") rfl),He.free_ok X G (c.fact 81 (f:=.free "isinstance") rfl),He.free_ok X G (c.fact 82 (f:=.free "int") rfl),He.free_ok X G (c.fact 83 (f:=.free "bool") rfl),He.free_ok X G (c.fact 84 (f:=.free "str") rfl),He.free_ok X G (c.fact 85 (f:=.free "tuple") rfl),He.free_ok X G (c.fact 86 (f:=.free "list") rfl),He.free_ok X G (c.fact 87 (f:=.free "all") rfl),He.free_ok X G (c.fact 88 (f:=.free "zip") rfl),He.free_ok X G (c.fact 89 (f:=.free "sum") rfl),He.free_ok X G (c.fact 90 (f:=.free "max") rfl),He.free_ok X G (c.fact 91 (f:=.free "range") rfl),He.free_ok X G (c.fact 92 (f:=.free "enumerate") rfl),He.free_ok X G (c.fact 93 (f:=.free "abs") rfl),He.free_ok X G (c.fact 94 (f:=.free "sorted") rfl),He.free_ok X G (c.fact 95 (f:=.free "min") rfl),He.free_ok X G (c.fact 96 (f:=.free "reversed") rfl),He.free_ok X G (c.fact 97 (f:=.free "any") rfl),He.free_ok X G (c.fact 98 (f:=.free "set") rfl),He.free_ok X G (c.fact 99 (f:=.free "dict") rfl),He.free_ok X G (c.fact 100 (f:=.free "repr") rfl)⟩;obtain ⟨wj,cx⟩:=He.ba cx;obtain ⟨tw,cx⟩:=He.ba cx;obtain ⟨pB,cx⟩:=He.ba cx;have iH:=zew pB;have T:zbf K mg (He.ga K) eC eN eK:=zey cx (fun n hn=>by
   rcases Qv hn with e | hn
   ·rw [e]; exact He.glo_ok X G (c.fact 103 (f:=.glo "NoRest") rfl)
   rcases Qv hn with e | hn
   ·rw [e]; exact He.glo_ok X G (c.fact 104 (f:=.glo "NoPlace") rfl)
   rcases Qv hn with e | hn
   ·rw [e]; exact He.glo_ok X G (c.fact 105 (f:=.glo "NoBook") rfl)
   rcases Qv hn with e | hn
   ·rw [e]; exact He.glo_ok X G (c.fact 106 (f:=.glo "NoKind") rfl)
   rcases Qv hn with e | hn
   ·rw [e]; exact He.glo_ok X G (c.fact 107 (f:=.glo "NoRule") rfl)
   rcases Qv hn with e | hn
   ·rw [e]; exact He.glo_ok X G (c.fact 108 (f:=.glo "NoNumber") rfl)
   rcases Qv hn with e | hn
   ·rw [e]; exact He.glo_ok X G (c.fact 109 (f:=.glo "TooGreat") rfl)
   rcases Qv hn with e | hn
   ·rw [e]; exact He.glo_ok X G (c.fact 110 (f:=.glo "Endless") rfl)
   rcases Qv hn with e | hn
   ·rw [e]; exact He.glo_ok X G (c.fact 111 (f:=.glo "NoReach") rfl)
   exact nomatch hn) (He.glo_ok X G (c.fact 101 (f:=.glo "FellError") rfl)) (He.free_ok X G (c.fact 102 (f:=.free "ValueError") rfl)) (fun n hn=>by
   rcases Qv hn with e | hn
   ·rw [e]; exact He.noat_ok (c.fact 112 (f:=.noat "NoKind" "kind") rfl)
   rcases Qv hn with e | hn
   ·rw [e]; exact He.noat_ok (c.fact 113 (f:=.noat "Endless" "kind") rfl)
   exact nomatch hn)
 have xB:=He.str_ok X G (c.fact 114 (f:=.str "LETTERS" "abcdefghijklmnopqrstuvwxyz") rfl);have mR:=He.int_ok X G (c.fact 115 (f:=.int "LONGEST_NAME" (8)) rfl);have g6:=He.int_ok X G (c.fact 116 (f:=.int "MOST_KINDS" (8)) rfl);have gZ:=He.int_ok X G (c.fact 117 (f:=.int "MOST_RULES" (4)) rfl);have dZ:=He.int_ok X G (c.fact 118 (f:=.int "MOST_RULE_PARTS" (4)) rfl);have iK:=He.int_ok X G (c.fact 119 (f:=.int "MOST_MANY" (1000000000)) rfl);have cK:=He.int_ok X G (c.fact 120 (f:=.int "MOST_PARTS_STANDING" (2000)) rfl);have cQ:=He.int_ok X G (c.fact 121 (f:=.int "MOST_DEEP_STANDING" (60)) rfl);have iI:=He.glo_ok X G (c.fact 122 (f:=.glo "NO_GROVES") rfl);have fH:Own K mg "NoBook" (He.ga K "NoBook"):=by
  obtain ⟨y1,y2,y3,y4⟩:=He.exc_ok (c.fact 123 (f:=.exc "NoBook") rfl);exact ⟨He.glo_ok X G (c.fact 105 (f:=.glo "NoBook") rfl),y1,y2,y3,y4⟩
 have dF:Own K mg "NoNumber" (He.ga K "NoNumber"):=by
  obtain ⟨y1,y2,y3,y4⟩:=He.exc_ok (c.fact 124 (f:=.exc "NoNumber") rfl);exact ⟨He.glo_ok X G (c.fact 108 (f:=.glo "NoNumber") rfl),y1,y2,y3,y4⟩
 have dO:Own K mg "NoPlace" (He.ga K "NoPlace"):=by
  obtain ⟨y1,y2,y3,y4⟩:=He.exc_ok (c.fact 125 (f:=.exc "NoPlace") rfl);exact ⟨He.glo_ok X G (c.fact 104 (f:=.glo "NoPlace") rfl),y1,y2,y3,y4⟩
 have eT:Own K mg "NoReach" (He.ga K "NoReach"):=by
  obtain ⟨y1,y2,y3,y4⟩:=He.exc_ok (c.fact 126 (f:=.exc "NoReach") rfl);exact ⟨He.glo_ok X G (c.fact 111 (f:=.glo "NoReach") rfl),y1,y2,y3,y4⟩
 have zx:Own K mg "NoRest" (He.ga K "NoRest"):=by
  obtain ⟨y1,y2,y3,y4⟩:=He.exc_ok (c.fact 127 (f:=.exc "NoRest") rfl);exact ⟨He.glo_ok X G (c.fact 103 (f:=.glo "NoRest") rfl),y1,y2,y3,y4⟩
 have fG:Own K mg "NoRule" (He.ga K "NoRule"):=by
  obtain ⟨y1,y2,y3,y4⟩:=He.exc_ok (c.fact 128 (f:=.exc "NoRule") rfl);exact ⟨He.glo_ok X G (c.fact 107 (f:=.glo "NoRule") rfl),y1,y2,y3,y4⟩
 have dE:Own K mg "TooGreat" (He.ga K "TooGreat"):=by
  obtain ⟨y1,y2,y3,y4⟩:=He.exc_ok (c.fact 129 (f:=.exc "TooGreat") rfl);exact ⟨He.glo_ok X G (c.fact 109 (f:=.glo "TooGreat") rfl),y1,y2,y3,y4⟩
 have yk:=He.glo_ok X G (c.fact 106 (f:=.glo "NoKind") rfl);have su:=He.meth_ok (c.fact 130 (f:=.meth "NoKind" "__init__") rfl);have yj:=He.noat_ok (c.fact 112 (f:=.noat "NoKind" "kind") rfl);have wO:=He.glo_ok X G (c.fact 110 (f:=.glo "Endless") rfl);have oD:=He.meth_ok (c.fact 131 (f:=.meth "Endless" "__init__") rfl);have wN:=He.noat_ok (c.fact 113 (f:=.noat "Endless" "kind") rfl);have DJ:=He.glo_ok X G (c.fact 132 (f:=.glo "Book") rfl);have qw:=He.cls_ok (c.fact 133 (f:=.cls "Book") rfl);have cJ:ClsF K (He.ga K "Book") ["spread_by_name","rows_by_name"]:=⟨qw,fun f hf=>by
   rcases Qv hf with e | hf
   ·rw [e]; exact He.noat_ok (c.fact 134 (f:=.noat "Book" "spread_by_name") rfl)
   rcases Qv hf with e | hf
   ·rw [e]; exact He.noat_ok (c.fact 135 (f:=.noat "Book" "rows_by_name") rfl)
   exact nomatch hf⟩
 have SN:=He.mkr_ok (c.fact 136 (f:=.mkr "Book") rfl);have SM:=He.meth_ok (c.fact 137 (f:=.meth "Book" eU) rfl);have SI:=He.meth_ok (c.fact 138 (f:=.meth "Book" "spreads") rfl);have SJ:=He.meth_ok (c.fact 139 (f:=.meth "Book" "rules") rfl);have DI:=He.glo_ok X G (c.fact 140 (f:=.glo "Duel") rfl);have kO:=He.cls_ok (c.fact 141 (f:=.cls "Duel") rfl);have ar:ClsF K (He.ga K "Duel") ["books","standing","hand"]:=⟨kO,fun f hf=>by
   rcases Qv hf with e | hf
   ·rw [e]; exact He.noat_ok (c.fact 142 (f:=.noat "Duel" "books") rfl)
   rcases Qv hf with e | hf
   ·rw [e]; exact He.noat_ok (c.fact 143 (f:=.noat "Duel" "standing") rfl)
   rcases Qv hf with e | hf
   ·rw [e]; exact He.noat_ok (c.fact 144 (f:=.noat "Duel" "hand") rfl)
   exact nomatch hf⟩
 have SH:=He.mkr_ok (c.fact 145 (f:=.mkr "Duel") rfl);have Sz:=He.meth_ok (c.fact 146 (f:=.meth "Duel" CV) rfl);have SE:=He.meth_ok (c.fact 147 (f:=.meth "Duel" m7) rfl);have SF:=He.meth_ok (c.fact 148 (f:=.meth "Duel" CZ) rfl);have SG:=He.meth_ok (c.fact 149 (f:=.meth "Duel" ni) rfl);have SA:=He.meth_ok (c.fact 150 (f:=.meth "Duel" fT) rfl);have e:=hfa.symm.trans IX;cases e;have b:=FunD.bindsA (ps:=[bD]) CU fun _ _ _ _ _ _ us hl=>match us,hl with | [_],_=>rfl
 refine ⟨yU,fun s v=>b s [v] rfl,fun base _ _=>?_⟩;have k1:=@kt1 P w K mg base _ X G c;have k2:=@kt2 P w K mg base _ X G c;have k3:=@kt3 P w K mg base _ X G c;have k4:=@kt4 P w K mg base _ X G c;have k5:=@kt5 P w K mg base _ X G c;obtain ⟨_,_,uv⟩:=k1 0 [aq];obtain ⟨_,_,w6⟩:=k1 1 [aq];obtain ⟨_,_,w5⟩:=k1 2 [aq];obtain ⟨_,_,rX⟩:=k1 3 [cF];obtain ⟨_,_,rV⟩:=k1 4 [dQ];obtain ⟨_,_,wX⟩:=k2 5 [dQ,aq];obtain ⟨_,_,yu⟩:=k3 6 ["text",wa,"signs"];obtain ⟨_,_,ou⟩:=k1 7 [aq];obtain ⟨_,_,mC⟩:=k1 8 [aq];obtain ⟨_,_,fM⟩:=k1 9 [cF];obtain ⟨_,_,uo⟩:=k2 10 [aY,ao];obtain ⟨_,_,wR⟩:=k3 11 [aa,aZ,aX];obtain ⟨_,_,AR⟩:=k2 12 [aa,aX];obtain ⟨_,_,iC⟩:=k1 13 [aa];obtain ⟨_,_,mB⟩:=k1 14 [aa];obtain ⟨_,_,uu⟩:=k1 15 [aa];obtain ⟨_,_,ox⟩:=k1 16 [aa];obtain ⟨_,_,i3⟩:=k2 17 [af,aI];obtain ⟨_,_,p9⟩:=k2 18 [af,aI];obtain ⟨_,_,nH⟩:=k2 19 [af,aa];obtain ⟨_,_,rY⟩:=k1 20 [cF];obtain ⟨_,_,w8⟩:=k1 21 [aq];obtain ⟨_,_,wZ⟩:=k1 22 [aq];obtain ⟨_,_,p8⟩:=k2 23 [aR,eU];obtain ⟨_,_,wU⟩:=k2 24 [aa,a7];obtain ⟨_,_,rS⟩:=k2 25 [aa,aZ];obtain ⟨_,_,jR⟩:=k1 26 [aa];obtain ⟨_,_,yx⟩:=k5 27 [af,aa,a7,aR,aF];obtain ⟨_,_,wV⟩:=k3 28 [af,"kind",aR];obtain ⟨_,_,mH⟩:=k1 29 [aq];obtain ⟨_,_,nJ⟩:=k1 30 [aa];obtain ⟨_,_,AW⟩:=k2 31 [aR,aF];obtain ⟨_,_,mD⟩:=k3 32 [af,"kind",aF];obtain ⟨_,_,rQ⟩:=k5 33 [af,aa,a7,ph,aF];obtain ⟨_,_,uq⟩:=k2 34 [af,aI];obtain ⟨_,_,ur⟩:=k4 35 [aI,aR,"word",aa];obtain ⟨_,_,AU⟩:=k2 36 [af,aI];obtain ⟨_,_,mG⟩:=k1 37 [af];obtain ⟨_,_,rT⟩:=k2 38 ["led",nh];obtain ⟨_,_,lq⟩:=k1 39 [af];obtain ⟨_,_,qa⟩:=k2 40 [af,aa];obtain ⟨_,_,yw⟩:=k1 41 [aX];obtain ⟨_,_,w7⟩:=k2 42 [aY,ao];obtain ⟨_,_,nK⟩:=k2 43 [aY,ao];obtain ⟨_,_,yA⟩:=k2 44 [aY,ao];obtain ⟨_,_,DS⟩:=k2 45 [aY,ao];obtain ⟨_,_,mI⟩:=k1 46 [OU];obtain ⟨_,_,wW⟩:=k2 47 [aO,aX];obtain ⟨_,_,DP⟩:=k2 48 [aY,ao];obtain ⟨_,_,AS⟩:=k1 49 [aO];obtain ⟨_,_,AY⟩:=k2 50 [aY,ao];obtain ⟨_,_,yt⟩:=k2 51 [aY,ao];obtain ⟨_,_,DQ⟩:=k2 52 [af,aa];obtain ⟨_,_,rR⟩:=k1 53 [af];obtain ⟨_,_,AX⟩:=k3 54 [af,bj,aR];obtain ⟨_,_,mA⟩:=k3 55 [af,bj,aa];obtain ⟨_,_,g8⟩:=k3 56 [af,bj,aZ];obtain ⟨_,_,AV⟩:=k4 57 [af,"kind","own",Nk];obtain ⟨_,_,w9⟩:=k3 58 [af,aa,aO];obtain ⟨_,_,g9⟩:=k4 59 [af,eB,aa,bK];obtain ⟨_,_,nB⟩:=k3 60 [Nj,aO,bK];obtain ⟨_,_,wY⟩:=k1 61 [aO];obtain ⟨_,_,kJ⟩:=k2 62 [aY,ao];obtain ⟨_,_,mF⟩:=k4 63 [af,eB,aZ,bK];obtain ⟨_,_,kK⟩:=k1 64 [bK];obtain ⟨_,_,mE⟩:=k4 65 [af,eB,"kind",bK];obtain ⟨_,_,nI⟩:=k4 66 [af,aa,cq,ao];obtain ⟨_,_,uw⟩:=k1 67 [bD];obtain ⟨_,_,rZ⟩:=k2 68 [ah,aJ];obtain ⟨_,_,lr⟩:=k1 69 [jB];obtain ⟨_,_,qb⟩:=k2 70 [ah,aJ];obtain ⟨_,_,qc⟩:=k2 71 [a6,lI];obtain ⟨_,_,jq⟩:=k2 72 [ah,aV];obtain ⟨_,_,mJ⟩:=k2 73 [aV,gN];obtain ⟨_,_,r8⟩:=k1 74 [ah];obtain ⟨_,_,uA⟩:=k4 75 [ah,cY,lx,aJ];obtain ⟨_,_,jS⟩:=k1 76 [ah];obtain ⟨_,_,r9⟩:=k3 77 [a6,ee,aV];obtain ⟨_,_,kL⟩:=k1 78 [a6];have yP:=rV.g (z9w Lad.ag Lad.bw B);have vR:=uv.g (zgo B);have K8:Got P w K mg base fX [aq] 2 (Ny K []):=w6.g (zgq B vR);have K7:=rX.g (zh2 B);have KR:=yu.g (zig B);have Cy:=w5.g (ziq B xB mR KR);have AF:∀ n,Got P w K mg base fW [aq] (n+3) (IA K n)/\Got P w K mg base dS [aq] (n+3) (FO K n)/\Got P w K mg base a8 [cF] (n+3) (Io K true n):=by
  intro n
  induction n with
  | zero=>exact ⟨ou.g (fun _=>zd6),mC.g (fun _=>zd8),fM.g (fun _=>zcs)⟩
  | succ n ih=>exact ⟨ou.g (zhj B Cy ih.2.1),mC.g (zic B K7 ih.2.2),fM.g (zix B K8 ih.1)⟩
 have La:Got P w K mg base dS [aq] 84 (FO K 81):=(AF 81).2.1;have K1:=yw.g zgr;have oH:=w7.g ziu;have Cr:=AS.g zh6;have IL:∀ n,Got P w K mg base bf [aa] (n) (BO K n):=by
  intro n
  induction n with
  | zero=>exact iC.g (fun _=>zde)
  | succ n ih=>exact iC.g (zhb ih)
 have vQ:=IL 70;have KZ:=uu.g (zgt B vQ);have IM:∀ n,Got P w K mg base fY [aa] (n) (FG K n):=by
  intro n
  induction n with
  | zero=>exact ox.g (fun _=>zdb)
  | succ n ih=>exact ox.g (zhc B ih)
 have Ll:=IM 70;have Co:=wU.y (zgu B dO vR);have LH:=lr.g (z69 B);have Cu:=wX.g (zid B);have vT:=yA.g (zgn B oH Cu);have Ls:=nK.g (zfi B);have KU:=DP.y (zia B zx oH Ls);have yS:=mI.g (ziw B yP);have Lp:=DS.g (zhw yS);have Lu:=AY.g (zfv B oH K1 Cr vT Lp);have KQ:=yt.g (zfq Cr vT);have Ct:=wW.g (zg3 B);have yP:=rV.g (zfo B);have Cp:=uo.g (zfj B yP);have KJ:=wR.g (zik B);have KL:=AR.g (zg8 B);have Cw:=mB.g (zgd B vQ);have mQ:OwnI P w K mg base "NoKind" (He.ga K "NoKind") 1:=⟨yk,WI wj,yj,⟨_,_,su.at_,beq_iff_eq.mp su.fn,zgf CS,Mc⟩⟩;have Ex:GotM P w K mg base (He.ga K "Book") eU [aw] (1) (Iv K (He.ga K "Book")):=⟨_,_,zlj B cJ Nd,SM,Ub,qw⟩;have yQ:=p9.y (zgj B mQ Ex);have Ly:z1w P w K mg base (He.ga K "Book") "rules" [aw,aI] (4) (NI K (He.ga K "Book") (He.ga K "NoKind")):=⟨_,_,zlc B cJ yQ Nc,SJ,T9,qw⟩;have yO:=i3.y (zhh B iI iH Ly);have vS:=nH.y (zha B Cw yQ);have K6:=wZ.g (zhu B dZ iK La vQ);have K9:=w8.g (zgy B gZ Cy K6);have K5:=p8.g (zfw B vQ);have Lq:=rY.g (zgg B g6 K9 K5);have K0:=rS.g (zie B);have IP:∀ n,Got P w K mg base cu [aa] (n) (Fw K n):=by
  intro n
  induction n with
  | zero=>exact jR.g (fun _=>zco)
  | succ n ih=>exact jR.g (zi1 B ih)
 have Lr:Got P w K mg base cu [aa] (20) (Fw K 20):=IP 20;have KS:=wV.y (zh7 B fG yO vR);have Lm:=mH.y (zh8 B dF vR);have Ew:z1w P w K mg base (He.ga K "Book") "spreads" [aw,aI] (4) (IB K (He.ga K "Book") (He.ga K "NoKind")):=⟨_,_,zko B cJ yQ Nb,SI,T8,qw⟩;have Ld:=mD.g (zgl B Ew);have IK:∀ n,Got P w K mg base gJ [af,aa,a7,ph,aF] (n+6) (FI K (He.ga K "Book") n):=by
  intro n
  induction n with
  | zero=>exact rQ.g (fun _=>zd3)
  | succ n ih=>exact rQ.g (zi5 B KJ Cp ih Ld K0)
 have KN:Got P w K mg base gJ [af,aa,a7,ph,aF] (64+6) (FI K (He.ga K "Book") 64):=IK 64;have Lb:=AW.g (zhx B Cp KL);have Lo:=nJ.y (zh4 B dE cK cQ KZ Ll);have Lg:=yx.y (zfl B dO vS Co KS Lm KN Lb Lo);have KP:=ur.g (zfr B Lr Co);have KO:=uq.y (zhl B Ly KP);have K3:=AU.y (zgh B KO);have K4:=rT.g (zgm B);have Cz:=mG.g (zga B Ex K3 K4);have Lk:=lq.g (zht B Cz Ex);have kQ:OwnI P w K mg base "Endless" (He.ga K "Endless") 1:=⟨wO,WI tw,wN,⟨_,_,oD.at_,beq_iff_eq.mp oD.fn,zgi CT,Md⟩⟩;have yR:=qa.y (zh9 B kQ Lk Cw);have Cv:=AV.g (zg6 B Ew KQ vT);have DA:∀ n,Got P w K mg base cg [af,bj,aa] (2*n+5) (Ak K (He.ga K "Book") n):=by
  intro n
  induction n with
  | zero=>exact mA.g (fun _=>zb9)
  | succ n ih =>
   have h1:Got P w K mg base bJ [af,bj,aZ] (2*n+6) (FH K (He.ga K "Book") n):=g8.g (Vn B Cv ih);exact mA.g (zhg B yS Ct h1)
 have sC:Got P w K mg base cg [af,bj,aa] 45 (Ak K (He.ga K "Book") 20):=DA 20;have KW:=g8.g (Vn (n:=20) B Cv sC);have CA:=AX.g (zfu B Lu sC);have Cs:=rR.g (zh1 B Cz yO CA);have KY:=DQ.y (zhr B vS yR sC Cs);have Li:=mE.y (zin B yO CA oH sC Cu);have Cq:=kJ.y (zfk B oH KU);have Lf:=kK.g (zgk B);have K2:=wY.g (zhm B);have Lc:=nB.y (zg4 B vT Cq K2);have AG:∀ n,GotX P w K mg base bt [af,eB,aa,bK] (2*n+51) (FC K (He.ga K "Book") n):=by
  intro n
  induction n with
  | zero=>exact g9.y (fun _=>zb1)
  | succ n ih =>
   have h1:GotX P w K mg base cH [af,eB,aZ,bK] (2*n+52) (Pu K (He.ga K "Book") n):=mF.y (zg2 B Li Ew ih Cq Lf);exact g9.y (zg0 B KW yS Ct h1 Lc)
 have Lj:GotX P w K mg base bt [af,eB,aa,bK] 91 (FC K (He.ga K "Book") 20):=AG 20;have Lh:=w9.y (zgz B eT vS yR Cs oH sC Lj);have Ln:=nI.y (zi2 B vS yR);have Lx:=uw.g (zif B);have oI:=rZ.g (zg5 B);have LC:=qb.g (zfn B oI);have LF:=qc.g (zgb B);have LI:=jq.g (zih B oI);have LG:=mJ.g (zfs B);have Lw:=r8.g (zhd B oI);have CF:=uA.g (ziv B oI LH);have LB:=jS.g (zhv B LC oI CF);have CC:=r9.g (zfz B);have Lv:=kL.g (zhk B CC);have Tq:GotI P w K mg base "Book" (He.ga K "Book") [aw,"kinds"] (88) (NA K (He.ga K "Book") (He.ga K "NoBook")):=⟨_,_,zlm B fH cJ Lq Nf,SN,Uc,DJ⟩;have Tp:GotI P w K mg base "Duel" (He.ga K "Duel") [aw,af,aa,cq,ao] (75) (PM K (He.ga K "Duel") (He.ga K "Book")):=⟨_,_,zl1 B ar Ln Na,SH,T7,DI⟩;have Tf:GotM P w K mg base (He.ga K "Duel") fT [aw] (1) (Px K (He.ga K "Duel")):=⟨_,_,zk7 B ar M5,SA,TV,kO⟩;have Te:GotM P w K mg base (He.ga K "Duel") CV [aw] (1) (PU K (He.ga K "Duel")):=⟨_,_,ZS B ar M4,Sz,TU,kO⟩;have To:GotM P w K mg base (He.ga K "Duel") ni [aw] (96) (Pr K (He.ga K "Duel") (He.ga K "Book")):=⟨_,_,zju B T ar KY Lh M9,SG,TZ,kO⟩;have Tj:GotM P w K mg base (He.ga K "Duel") CZ [aw,a7,aR,aF] (76) (PY K (He.ga K "Duel") (He.ga K "Book")):=⟨_,_,zkb B ar Lg M8,SF,TY,kO⟩;have Ti:GotM P w K mg base (He.ga K "Duel") m7 [aw] (1) (QA K (He.ga K "Duel")):=⟨_,_,zlf B ar M6,SE,TX,kO⟩;exact zit B Lx LB Lv Tq LF oI CF CC Tp Tf Te To LI LG Lw Tj Ti M7
end FT
open PySem PySem.W PySem.Calls PyProof.Rows
set_option maxRecDepth 100000 in
set_option maxHeartbeats 0 in
theorem PySem.Challenge.cw_felltimber_k60_whole_duel_to_the_end_holds : PySem.Challenge.rw_felltimber_k60_whole_duel_to_the_end.Holds := by
 w_on; o_law
 refine HandSHeadRun.head_any (r := OpenLaw.row PySem.Challenge.rw_felltimber_k60_whole_duel_to_the_end) (q := view (OpenLaw.row PySem.Challenge.rw_felltimber_k60_whole_duel_to_the_end).prog [114]) (H := FT.hk) (ob := FT.ob) (M := 9000) (loose := FT.loose) (d := HandSHeadRun.topDef (OpenLaw.row PySem.Challenge.rw_felltimber_k60_whole_duel_to_the_end).prog 114) (kwd := []) FT.ob_eq
  (by kernel_rfl) (fun s => by kernel_rfl) FT.run (by kernel_rfl) (by kernel_rfl) (by kernel_rfl) (by rfl) (by first | assumption | decide +kernel) (by decide +kernel) ⟨rfl, rfl, rfl, rfl, rfl, by decide +kernel⟩ ?hw ?hc
 case hw => w_witness2
 case hc =>
  refine L2.walk_ofE (l := PySem.Challenge.rw_felltimber_k60_whole_duel_to_the_end) (n := 63) (k := 230) (x := "_law_script") (CX := L2.CX0) rfl (by decide) (by kernel_rfl) ⟨rfl, by decide, by decide⟩ ?F (fun _ _ _ _ z => z);intro w mg fa h Y G hmg0;obtain ⟨K, KX, c, cx⟩ := Y;have hmg : mg ("law" : PySem.Str) = some (.ref fa) := by
   have e : (HandSHeadRun.topDef (OpenLaw.row PySem.Challenge.rw_felltimber_k60_whole_duel_to_the_end).prog 114).name = ("law" : PySem.Str) := by kernel_rfl
   rw [<- e];exact hmg0
  obtain ⟨fd, hb, hF⟩ := FT.facts (P := (PySem.Challenge.rw_felltimber_k60_whole_duel_to_the_end).prog) (w := w) KX G hmg c cx;exact ⟨K, fd, FT.spLaw K, KX, hb, fun H a ns hl _ hS => ⟨a, ns, rfl, hS, hl, fun _ => rfl⟩, hF⟩
